import PyProof.Rows.All
import Wide.All
import OpenK.AllK
import Wide.FinOn
import Lean
import PyProof.EqAt
import PyProof.EqKinds
import PyProof.TupleCall
import PySem.Challenge.RW_bundlehouse_k05_whole_read_as_written
set_option Elab.async false
set_option linter.all false
set_option maxRecDepth 100000
namespace L2
open PySem PySem.Spec PyProof.Rows
abbrev Key := Sum Int Str
def keyIs : Key → Value → Bool
  | .inl k, v => Value.isInt k v
  | .inr x, v => Value.isStrOf x v
def keyH (w : World) : Key → Int
  | .inl k => hashInt k
  | .inr x => hashStr w x
theorem keyIs_shape : ∀ {k : Key} {v : Value}, keyIs k v = true → (∃ i t, k = Sum.inl i ∧ v = Value.int i t) ∨ (∃ x t, k = Sum.inr x ∧ v = Value.str x t)
  | .inl i, v, h => by
    obtain ⟨t, e⟩ := Value.isInt_shape (k := i) (v := v) h
    exact .inl ⟨i, t, rfl, e⟩
  | .inr x, v, h => by
    obtain ⟨t, e⟩ := Value.isStrOf_shape (x := x) (v := v) h
    exact .inr ⟨x, t, rfl, e⟩
theorem key_ll (a b : Int) : decide ((Sum.inl a : Key) = Sum.inl b) = (a == b) := by
  by_cases e : a = b
  · subst e; simp
  · have h : ¬ (Sum.inl a : Key) = Sum.inl b := fun q => e (Sum.inl.inj q)
    rw [decide_eq_false h]
    exact (beq_eq_false_iff_ne.mpr e).symm
theorem key_rr (a b : Str) : decide ((Sum.inr a : Key) = Sum.inr b) = decide (a = b) := by
  by_cases e : a = b
  · subst e; simp
  · have h : ¬ (Sum.inr a : Key) = Sum.inr b := fun q => e (Sum.inr.inj q)
    rw [decide_eq_false h, decide_eq_false e]
theorem key_lr (a : Int) (b : Str) : decide ((Sum.inl a : Key) = Sum.inr b) = false := decide_eq_false (fun q => nomatch q)
theorem key_rl (a : Str) (b : Int) : decide ((Sum.inr a : Key) = Sum.inl b) = false := decide_eq_false (fun q => nomatch q)
def mixKind (prog : Program) (w : World) : PySem.KeyKind prog w Key where
  is := keyIs
  hash := keyH w
  inj := fun v a b ha hb => by
    rcases keyIs_shape ha with ⟨i, t, rfl, rfl⟩ | ⟨x, t, rfl, rfl⟩
    · rcases keyIs_shape hb with ⟨j, u, rfl, e⟩ | ⟨y, u, rfl, e⟩
      · injection e with e1 _; rw [e1]
      · exact nomatch e
    · rcases keyIs_shape hb with ⟨j, u, rfl, e⟩ | ⟨y, u, rfl, e⟩
      · exact nomatch e
      · injection e with e1 _; rw [e1]
  byValue := fun k v h => by
    rcases keyIs_shape h with ⟨i, t, rfl, rfl⟩ | ⟨x, t, rfl, rfl⟩ <;> rfl
  pyHash := fun hv h => by
    rcases keyIs_shape hv with ⟨i, t, rfl, rfl⟩ | ⟨x, t, rfl, rfl⟩
    · exact wpAny_pyHash_int h
    · exact wpAny_pyHash_str h
  eqBool := fun hu hv h => by
    rcases keyIs_shape hu with ⟨i, t, rfl, rfl⟩ | ⟨x, t, rfl, rfl⟩
    · rcases keyIs_shape hv with ⟨j, u, rfl, rfl⟩ | ⟨y, u, rfl, rfl⟩
      · rw [key_ll] at h; exact wpAny_eqBool_int h
      · rw [key_lr] at h; exact SeqAt.EqAt.int_str i t y u _ _ _ _ h
    · rcases keyIs_shape hv with ⟨j, u, rfl, rfl⟩ | ⟨y, u, rfl, rfl⟩
      · rw [key_rl] at h; exact SeqAt.EqAt.str_int x t j u _ _ _ _ h
      · rw [key_rr] at h; exact wpAny_eqBool_str h
  «strs» := fun k x t v h => by
    rcases keyIs_shape h with ⟨i, u, rfl, e⟩ | ⟨y, u, rfl, e⟩
    · exact nomatch e
    · injection e with e1 _
      subst e1
      cases v <;> rfl
end L2
namespace L2
open PySem PySem.Spec PyProof.Rows
inductive V where
  | non | bl (b : Bool) | int (i : Int) | str (x : Str) | byt (b : Array UInt8) | flt (b : UInt64) | ref (a : Addr) | ty (n : String)
  deriving DecidableEq
def RelV : V → Value → Prop
  | .non, u => u = Value.none
  | .bl b, u => u = Value.bool b
  | .int i, u => ∃ t, u = Value.int i t
  | .str x, u => ∃ t, u = Value.str x t
  | .byt b, u => ∃ t, u = Value.bytes b t
  | .flt b, u => ∃ t, u = Value.float b t
  | .ref a, u => u = Value.ref a
  | .ty n, u => u = Value.type n
abbrev Vals : List V → List Value → Prop := Paired RelV
theorem Vals.length {xs : List V} {us : List Value} (r : Vals xs us) : xs.length = us.length := Paired.length r
theorem Vals.get : ∀ {xs : List V} {us : List Value} {i : Nat} {x : V}, Vals xs us → xs[i]? = some x → ∃ u, us[i]? = some u ∧ RelV x u
  | _, _, _, _, .nil, e => by simp at e
  | _, _, 0, _, .cons r _, e => by simp at e; subst e; exact ⟨_, rfl, r⟩
  | _, _, i + 1, x, .cons _ t, e => by
    obtain ⟨u, h1, h2⟩ := Vals.get (i := i) (x := x) t (by simpa using e)
    exact ⟨u, by simpa using h1, h2⟩
theorem Vals.append : ∀ {xs ys : List V} {us ws : List Value}, Vals xs us → Vals ys ws → Vals (xs ++ ys) (us ++ ws)
  | _, _, _, _, .nil, s => s
  | _, _, _, _, .cons r t, s => .cons r (Vals.append t s)
theorem Vals.take : ∀ {xs : List V} {us : List Value} (n : Nat), Vals xs us → Vals (xs.take n) (us.take n)
  | _, _, 0, _ => .nil
  | _, _, _ + 1, .nil => .nil
  | _, _, n + 1, .cons r t => .cons r (Vals.take n t)
theorem Vals.drop : ∀ {xs : List V} {us : List Value} (n : Nat), Vals xs us → Vals (xs.drop n) (us.drop n)
  | _, _, 0, r => r
  | _, _, _ + 1, .nil => .nil
  | _, _, n + 1, .cons _ t => Vals.drop n t
def RelO : Option V → Option Value → Prop
  | some v, some u => RelV v u
  | none, none => True
  | _, _ => False
def KV {κ : Type} : List (κ × V) → List (κ × Value) → Prop := Paired fun (p : κ × V) (q : κ × Value) => p.1 = q.1 ∧ RelV p.2 q.2
def kV : Key → V
  | .inl i => .int i
  | .inr x => .str x
inductive HO where
  | lst (xs : List V)
  | tup (xs : List V)
  | dK (kvs : List (Key × V)) | dT (kvs : List (List Key × V))
  | set (S : Int → Bool) (n : Nat)
  | ins (C dx : Addr) (fs : List (Str × V))
  | own (x : Addr)
  | xd (fs : List (Str × V))
  | met (f x : Addr)
  | rng (lo hi : Int)
  | frz (o : Obj) (u : HO)
  | tbl (ps : Array Value)
  | ext (φ : Heap → Prop)
abbrev Hp := Addr → Option HO
def upd (H : Hp) (a : Addr) (o : HO) : Hp := fun b => if b = a then some o else H b
theorem upd_same {H : Hp} {a : Addr} {o : HO} : upd H a o a = some o := by unfold upd; rw [if_pos rfl]
theorem upd_ne {H : Hp} {a b : Addr} {o : HO} (h : b ≠ a) : upd H a o b = H b := by unfold upd; rw [if_neg h]
theorem ne_of {H : Hp} {a b : Addr} {o u : HO} (h : H a = some o) (h' : H b = some u) (d : o ≠ u) : a ≠ b := by
  intro e; subst e; rw [h] at h'; exact d (Option.some.inj h')
theorem ne_of_none {H : Hp} {a b : Addr} {o : HO} (h : H a = some o) (h' : H b = none) : a ≠ b := by
  intro e; subst e; rw [h] at h'; cases h'
section
variable (P : Program) (w : World)
def ObjOk (H : Hp) (h : Heap) (a : Addr) : HO → Prop
  | .lst xs => xs.length ≤ sizeLine ∧ ∃ (its : List Value) (n : Nat), Vals xs its ∧ h.get? a = some { cls := .type "list", data := .seq its.toArray n }
  | .tup xs => xs.length ≤ sizeLine ∧ ∃ its : List Value, Vals xs its ∧ IsTup h a its.toArray
  | .dK kvs => kvs.length ≤ sizeLine ∧ (a == sysModules) = false ∧ ∃ vs, KV kvs vs ∧ h.DictOf (mixKind P w) a vs
  | .dT kvs => kvs.length ≤ sizeLine ∧ (a == sysModules) = false ∧ ∃ xs : List (List Key × Addr × Value),
      Paired (fun (p : List Key × V) (q : List Key × Addr × Value) => p.1 = q.1 ∧ H q.2.1 = some (.tup (p.1.map kV)) ∧ RelV p.2 q.2.2) kvs xs ∧
      ∃ o es ep, h.get? a = some o ∧ o.ExactDict ∧ o.data = .dict es ep ∧ es.toList = xs.map (entryOfKey (tupleKind (mixKind P w))) ∧ (xs.map (·.1)).Nodup
  | .set S n => h.SetOf (intKind P w) a S n
  | .ins C dx fs => H dx = some (.own a) ∧ fs.length ≤ 1000 ∧ dx ≠ a ∧ h.get? a = some (PySem.W.instObj C dx) ∧
      ∃ mA, h.Ns1 dx mA ∧ (∀ f, RelO (fs.lookup f) (mA f)) ∧ PySem.Within mA (fs.map (·.1))
  | .own _ => ∃ o, h.get? a = some o
  | .xd fs => ∃ mA, h.Ns1 a mA ∧ ∀ f, RelO (fs.lookup f) (mA f)
  | .rng lo hi => ∃ t u v, h.get? a = some { cls := .type "range", data := .fields #[.int lo t, .int hi u, .int 1 v] }
  | .frz o u => h.get? a = some o ∧ ObjOk H h a u
  | .tbl ps => h.get? a = some { cls := .none, data := .fields ps }
  | .met f x => h.get? a = some (PySem.W.methodObj (.ref f) (.ref x))
  | .ext φ => φ h ∧ (∃ o, h.get? a = some o) ∧ ∀ h1 h2 : Heap, φ h1 → (∀ o, h1.get? a = some o → h2.get? a = some o) → φ h2
def HOk (H : Hp) (h : Heap) : Prop := ∀ a o, H a = some o → ObjOk P w H h a o
end
section
variable {P : Program} {w : World} {H H' : Hp} {h h' : Heap} {a : Addr} {o : HO}
theorem ObjOk.lt (x : ObjOk P w H h a o) : a < h.objs.size := by
  cases o with
  | lst xs => obtain ⟨_, _, _, _, e⟩ := x; exact Heap.lt_size e
  | tup xs => obtain ⟨_, _, _, p⟩ := x; exact p.lt
  | dK kvs => obtain ⟨_, _, _, _, o, _, _, e, _⟩ := x; exact Heap.lt_size e
  | dT kvs => obtain ⟨_, _, _, _, o, _, _, e, _⟩ := x; exact Heap.lt_size e
  | set S n => obtain ⟨o, _, _, _, e, _⟩ := x; exact Heap.lt_size e
  | ins C dx fs => obtain ⟨_, _, _, e, _⟩ := x; exact Heap.lt_size e
  | own y => obtain ⟨_, e⟩ := x; exact Heap.lt_size e
  | xd fs => obtain ⟨_, ⟨_, _, _, e, _⟩, _⟩ := x; exact Heap.lt_size e
  | rng lo hi => obtain ⟨_, _, _, e⟩ := x; exact Heap.lt_size e
  | frz ob u => obtain ⟨e, _⟩ := x; exact Heap.lt_size e
  | tbl ps => exact Heap.lt_size (show h.get? a = some _ from x)
  | met f y => exact Heap.lt_size (show h.get? a = some _ from x)
  | ext φ => obtain ⟨_, ⟨_, e⟩, _⟩ := x; exact Heap.lt_size e
theorem Paired.mapP {α β : Type} {F G : α → β → Prop} : ∀ {l₁ : List α} {l₂ : List β}, Paired F l₁ l₂ → (∀ a b, F a b → G a b) → Paired G l₁ l₂
  | _, _, .nil, _ => .nil
  | _, _, .cons r t, f => .cons (f _ _ r) (Paired.mapP t f)
theorem ObjOk.stay (x : ObjOk P w H h a o) (k : ∀ b u, (b = a ∨ H b = some (.own a)) → h.get? b = some u → h'.get? b = some u)
    (ho : ∀ b, H b = some (.own a) → H' b = some (.own a)) (ht : ∀ b xs, H b = some (.tup xs) → H' b = some (.tup xs)) : ObjOk P w H' h' a o := by
  induction o with
  | lst xs => obtain ⟨z, its, n, r, e⟩ := x; exact ⟨z, its, n, r, k _ _ (.inl rfl) e⟩
  | tup xs => obtain ⟨z, its, r, ob, e, c⟩ := x; exact ⟨z, its, r, ob, k _ _ (.inl rfl) e, c⟩
  | dK kvs => obtain ⟨z, y, vs, r, ob, es, ep, e, c⟩ := x; exact ⟨z, y, vs, r, ob, es, ep, k _ _ (.inl rfl) e, c⟩
  | dT kvs =>
    obtain ⟨z, y, xs, r, ob, es, ep, e, c⟩ := x
    exact ⟨z, y, xs, Paired.mapP r fun p q z => ⟨z.1, ht _ _ z.2.1, z.2.2⟩, ob, es, ep, k _ _ (.inl rfl) e, c⟩
  | set S n => obtain ⟨ob, es, ep, t, e, c⟩ := x; exact ⟨ob, es, ep, t, k _ _ (.inl rfl) e, c⟩
  | ins C dx fs =>
    obtain ⟨d, z, ne, e, mA, ⟨od, es, ep, e2, c⟩, r⟩ := x
    exact ⟨ho _ d, z, ne, k _ _ (.inl rfl) e, mA, ⟨od, es, ep, k _ _ (.inr d) e2, c⟩, r⟩
  | own y => obtain ⟨ob, e⟩ := x; exact ⟨ob, k _ _ (.inl rfl) e⟩
  | xd fs => obtain ⟨mA, ⟨od, es, ep, e, c⟩, r⟩ := x; exact ⟨mA, ⟨od, es, ep, k _ _ (.inl rfl) e, c⟩, r⟩
  | rng lo hi => obtain ⟨t, u, v, e⟩ := x; exact ⟨t, u, v, k _ _ (.inl rfl) e⟩
  | frz ob u ih => obtain ⟨e, q⟩ := x; exact ⟨k _ _ (.inl rfl) e, ih q⟩
  | tbl ps =>
    have e : h.get? a = some { cls := .none, data := .fields ps } := x
    show h'.get? a = some { cls := .none, data := .fields ps }
    exact k a _ (.inl rfl) e
  | met f y =>
    have e : h.get? a = some (PySem.W.methodObj (.ref f) (.ref y)) := x
    show h'.get? a = some (PySem.W.methodObj (.ref f) (.ref y))
    exact k a _ (.inl rfl) e
  | ext φ => obtain ⟨p, ⟨o, e⟩, st⟩ := x; exact ⟨st _ _ p fun o q => k _ _ (.inl rfl) q, ⟨o, k _ _ (.inl rfl) e⟩, st⟩
theorem HOk.lt (x : HOk P w H h) (e : H a = some o) : a < h.objs.size := (x a o e).lt
theorem HOk.fresh (x : HOk P w H h) (e : h.objs.size ≤ a) : H a = none := by
  cases q : H a with
  | none => rfl
  | some u => exact absurd (Nat.lt_of_lt_of_le (x.lt q) e) (Nat.lt_irrefl _)
theorem HOk.kept (x : HOk P w H h) (k : ∀ b u, h.get? b = some u → h'.get? b = some u) : HOk P w H h' := fun a o e =>
  (x a o e).stay (fun b u _ q => k b u q) (fun _ q => q) fun _ _ q => q
theorem HOk.laid (x : HOk P w H h) (k : ∀ b u, h.get? b = some u → h'.get? b = some u) (hp : h.objs.size ≤ a) (new : ObjOk P w (upd H a o) h' a o) : HOk P w (upd H a o) h' := fun b u e => by
  have hn := x.fresh hp
  by_cases hb : b = a
  · subst hb; rw [upd_same] at e; cases e; exact new
  · rw [upd_ne hb] at e
    exact (x b u e).stay (fun c v _ q => k c v q) (fun c q => by rw [upd_ne (ne_of_none q hn)]; exact q) fun c xs q => by rw [upd_ne (ne_of_none q hn)]; exact q
end
def Rd (H : Hp) (a : Addr) (u : HO) : Prop := H a = some u ∨ ∃ o, H a = some (.frz o u)
theorem Rd.ok {P : Program} {w : World} {H : Hp} {h : Heap} {a : Addr} {u : HO} (r : Rd H a u) (x : HOk P w H h) : ObjOk P w H h a u := by
  rcases r with r | ⟨o, r⟩
  · exact x a u r
  · obtain ⟨_, q⟩ := x a _ r
    exact q
def Mut : Option HO → Prop
  | some (.lst _) => True
  | some (.dK _) => True
  | some (.dT _) => True
  | some (.set _ _) => True
  | some (.ins _ _ _) => True
  | some (.ext _) => True
  | _ => False
section
variable {P : Program} {w : World} {H : Hp} {h h' : Heap} {x e : Addr} {o' : HO}
theorem HOk.write (ok : HOk P w H h) (mu : Mut (H x)) (he : e = x ∨ H e = some (.own x)) (k : ∀ b u, b ≠ e → h.get? b = some u → h'.get? b = some u) (heo : ∃ u, h'.get? e = some u)
    (new : ObjOk P w (upd H x o') h' x o') : HOk P w (upd H x o') h' := fun b u q => by
  have nown : ∀ c y, H c = some (.own y) → c ≠ x := fun c y r z => by subst z; rw [r] at mu; exact mu
  have ntup : ∀ c xs, H c = some (.tup xs) → c ≠ x := fun c xs r z => by subst z; rw [r] at mu; exact mu
  by_cases hb : b = x
  · subst hb; rw [upd_same] at q; cases q; exact new
  · rw [upd_ne hb] at q
    by_cases hbe : b = e
    · have q' : H b = some (.own x) := by
        rcases he with z | z
        · exact absurd (hbe.trans z) hb
        · rw [hbe]; exact z
      rw [q] at q'; cases q'
      obtain ⟨v, hv⟩ := heo
      exact ⟨v, by rw [hbe]; exact hv⟩
    · refine (ok b u q).stay (fun c v hc r => k c v ?_ r) (fun c r => by rw [upd_ne (nown c b r)]; exact r) fun c xs r => by rw [upd_ne (ntup c xs r)]; exact r
      rcases hc with rfl | hc
      · exact hbe
      · rintro rfl
        rcases he with z | z
        · exact nown c b hc z
        · rw [hc] at z; cases z; exact hb rfl
end
structure Un (fs ex : List Addr) (H H' : Hp) (h h' : Heap) : Prop where
  keep : ∀ b o, h.get? b = some o → H b = none → b ∉ fs → b ∉ ex → h'.get? b = some o
  slot : ∀ b o, h.get? b = some o → H b = none → b ∈ fs → b ∉ ex → ∃ sl, h'.get? b = some { o with slots := sl }
  free : ∀ b o, h.get? b = some o → H b = none → b ∉ ex → H' b = none
  there : ∀ b o, h.get? b = some o → b ∉ ex → ∃ o', h'.get? b = some o'
  tups : ∀ b xs, H b = some (.tup xs) → H' b = some (.tup xs)
  frzs : ∀ b o u, H b = some (.frz o u) → H' b = some (.frz o u)
  tbls : ∀ b ps, H b = some (.tbl ps) → ∃ more, H' b = some (.tbl (ps ++ more))
section
variable {fs fs' ex ex' : List Addr} {H H1 H2 : Hp} {h h1 h2 h' : Heap} {a x e : Addr} {o : HO}
theorem Un.any (u : Un fs ex H H1 h h1) {b : Addr} {ob : Obj} (q : h.get? b = some ob) (n : H b = none) (hx : b ∉ ex) : ∃ sl, h1.get? b = some { ob with slots := sl } := by
  by_cases hb : b ∈ fs
  · exact u.slot b ob q n hb hx
  · exact ⟨ob.slots, u.keep b ob q n hb hx⟩
theorem Un.kept (k : ∀ b u, h.get? b = some u → h'.get? b = some u) : Un fs ex H H h h' :=
  ⟨fun b ob q _ _ _ => k b ob q, fun b ob q _ _ _ => ⟨ob.slots, k b ob q⟩, fun _ _ _ n _ => n, fun b ob q _ => ⟨ob, k b ob q⟩, fun _ _ q => q, fun _ _ _ q => q, fun _ ps q => ⟨#[], by rw [q]; simp⟩⟩
theorem Un.refl : Un fs ex H H h h := Un.kept fun _ _ q => q
theorem Un.laid (k : ∀ b u, h.get? b = some u → h'.get? b = some u) (hp : h.objs.size ≤ a) (hn : H a = none) : Un fs ex H (upd H a o) h h' where
  keep := fun b u q _ _ _ => k b u q
  slot := fun b u q _ _ _ => ⟨u.slots, k b u q⟩
  free := fun b u q n _ => by rw [upd_ne (Nat.ne_of_lt (Nat.lt_of_lt_of_le (Heap.lt_size q) hp))]; exact n
  there := fun b u q _ => ⟨u, k b u q⟩
  tups := fun b xs q => by rw [upd_ne (ne_of_none q hn)]; exact q
  frzs := fun b u xs q => by rw [upd_ne (ne_of_none q hn)]; exact q
  tbls := fun b ps q => ⟨#[], by rw [upd_ne (ne_of_none q hn), q]; simp⟩
theorem Un.write (mu : Mut (H x)) (he : e = x ∨ H e = some (.own x)) (k : ∀ b u, b ≠ e → h.get? b = some u → h'.get? b = some u) (heo : ∃ u, h'.get? e = some u) : Un fs ex H (upd H x o) h h' := by
  have hx : ∀ b, H b = none → b ≠ x := fun b n z => by subst z; rw [n] at mu; exact mu
  have hb : ∀ b, H b = none → b ≠ e := fun b n z => by
    subst z
    rcases he with r | r
    · exact hx b n r
    · rw [n] at r; cases r
  have hm : ∀ b u, H b = some u → ¬ Mut (some u) → b ≠ x := fun b u q nm z => by subst z; rw [q] at mu; exact nm mu
  refine ⟨fun b u q n _ _ => k b u (hb b n) q, fun b u q n _ _ => ⟨u.slots, k b u (hb b n) q⟩, fun b u q n _ => by rw [upd_ne (hx b n)]; exact n, fun b u q _ => ?_,
    fun b xs q => by rw [upd_ne (hm b _ q fun z => z)]; exact q, fun b u xs q => by rw [upd_ne (hm b _ q fun z => z)]; exact q, fun b ps q => ⟨#[], by rw [upd_ne (hm b _ q fun z => z), q]; simp⟩⟩
  by_cases hbe : b = e
  · subst hbe; exact heo
  · exact ⟨u, k b u hbe q⟩
end
def trk (h : Heap) (H : Hp) : List Addr := (List.range h.objs.size).filter fun a => (H a).isSome
def hidT (h : Heap) (H : Hp) : Heap := PySem.W.hideAll h (trk h H)
theorem hidT_size (h : Heap) (H : Hp) : (hidT h H).objs.size = h.objs.size := PySem.W.hideAll_size _ _
theorem hidT_get {h : Heap} {H : Hp} {b : Addr} {o : Obj} (e : h.get? b = some o) (n : H b = none) : (hidT h H).get? b = some o :=
  PySem.W.hideAll_get _ e fun hm => by
    have q : (H b).isSome = true := (List.mem_filter.mp hm).2
    rw [n] at q; simp at q
theorem of_hidT {h : Heap} {H : Hp} {b : Addr} {o : Obj} (e : (hidT h H).get? b = some o) : h.get? b = some o ∧ H b = none := by
  have e' : h.get? b = some o := PySem.W.of_hideAll (trk h H) e
  refine ⟨e', ?_⟩
  cases q : H b with
  | none => rfl
  | some x =>
    have hm : b ∈ trk h H := List.mem_filter.mpr ⟨List.mem_range.mpr (Heap.lt_size e'), by simp [q]⟩
    have z : (hidT h H).get? b = none := PySem.W.hideAll_none (trk h H) hm
    rw [z] at e; cases e
end L2
namespace L2
open PySem PySem.Spec PyProof.Rows
structure Mod (K : PySem.W.Frag) (mg : Str → Option Value) (base : Heap) : Prop where
  kin : K.In base
  glob : base.Ns mainGlobals mg
  blt : ∃ mb, base.Ns builtinsNs mb ∧ ∀ x : Str, x ≠ "__name__" → mb x = bootBuiltins x
  nolimit : base.NoLimit
structure Cx where
  prog : Program
  w : World
  K : PySem.W.Frag
  mg : Str → Option Value
  base : Heap
  A : Around
  N : List Str
  s₀ : Shared
  H₀ : Hp
  env : Env
  outer : List Env
  stack : List Env
  ex : List Addr
  fn : Str → Bool
  calm : Bool
  pn : List (Addr × Obj)
  xe : Value → Shared → Prop
def frs (l : List Env) : List Addr := l.filterMap (·.frame)
abbrev Cx.fs (X : Cx) : List Addr := frs X.outer
def Vis (sc : Scope) (x : Str) : Prop := sc.names.lookup x = some .local ∨ sc.names.lookup x = some .cell ∨ sc.names.lookup x = some .free
def Loc (sc : Scope) (x : Str) : Prop := sc.names.lookup x = some .local ∨ sc.names.lookup x = some .cell
def Look (env : Env) (h : Heap) (m : Str → Option Value) (x : Str) (u : Value) : Prop :=
  (env.kindOf x = some .local ∧ m x = some u) ∨ ((env.kindOf x = some .cell ∨ env.kindOf x = some .free) ∧ ∃ c, env.cells.lookup x = some c ∧ h.IsCell c (some u))
structure Cx.Ok (X : Cx) : Prop where
  mod : Mod X.K X.mg X.base
  kind : X.env.scope.kind = .function
  glob : X.env.globals = mainGlobals
  blt : X.env.builtins = builtinsNs
  above : X.s₀.heap.objs.size ≤ X.env.locals
  inj : ∀ x y c, X.env.cells.lookup x = some c → X.env.cells.lookup y = some c → x = y
  has : ∀ x, (X.env.kindOf x = some .cell ∨ X.env.kindOf x = some .free) → ∃ c, X.env.cells.lookup x = some c
  cab : ∀ x c, X.fn x = true → X.env.cells.lookup x = some c → X.s₀.heap.objs.size ≤ c
  hd : X.calm = true → X.A.handled = none
  frames : X.A.frames = some X.stack
  stk : X.stack = X.outer ∨ (X.stack = X.env :: X.outer ∧ X.env.frame = some X.env.locals)
  exf : ∀ b ∈ X.ex, b ≠ X.env.locals ∧ ∀ x c, X.env.cells.lookup x = some c → c ≠ b
  bs : ∀ b o, X.base.get? b = some o → X.s₀.heap.get? b = some o ∧ X.H₀ b = none
  bsz : X.base.objs.size ≤ X.s₀.heap.objs.size
  noex : ∀ b o, X.base.get? b = some o → b ∉ X.ex
  exfs : ∀ b ∈ X.ex, b ∉ X.fs
  funs : X.s₀.heap.FunFrames X.base X.outer
  frf : ∀ b ∈ X.fs, X.H₀ b = none
structure Inv (X : Cx) (pins : List (Addr × Obj)) (σ : List (Option V)) (H : Hp) (s : Shared) : Prop where
  ok : X.Ok
  os : s.os = X.s₀.os
  bare : AllBare s.gens
  base : Un X.fs X.ex X.H₀ H X.s₀.heap s.heap
  loc : ∃ m, s.heap.Ns X.env.locals m ∧ ∀ (i : Nat) (x : Str) (v : V), X.N[i]? = some x → σ[i]? = some (some v) → Vis X.env.scope x → ∃ u, RelV v u ∧ Look X.env s.heap m x u
  cell : ∀ x c, X.env.cells.lookup x = some c → ∃ v, s.heap.IsCell c v
  free : H X.env.locals = none
  freeC : ∀ x c, X.env.cells.lookup x = some c → H c = none
  pin : ∀ p ∈ X.pn ++ pins, s.heap.get? p.1 = some p.2 ∧ H p.1 = none ∧ p.1 ≠ X.env.locals ∧ p.1 ∉ X.fs ∧ ∀ v, p.2.data ≠ .cell v
  hok : HOk X.prog X.w H s.heap
  len : σ.length = X.N.length
section
variable {X : Cx} {pins : List (Addr × Obj)} {σ : List (Option V)} {H H' : Hp} {s : Shared} {h' : Heap}
theorem Cx.Ok.nofr (ok : X.Ok) {b : Addr} {o : Obj} (e : X.base.get? b = some o) : b ∉ X.fs := fun hb => by
  have := (ok.funs.mem hb).1
  rw [e] at this; cases this
theorem Inv.bs (I : Inv X pins σ H s) : ∀ b o, X.base.get? b = some o → s.heap.get? b = some o ∧ H b = none := fun b o e =>
  ⟨I.base.keep b o (I.ok.bs b o e).1 (I.ok.bs b o e).2 (I.ok.nofr e) (I.ok.noex b o e), I.base.free b o (I.ok.bs b o e).1 (I.ok.bs b o e).2 (I.ok.noex b o e)⟩
theorem Inv.bk (I : Inv X pins σ H s) : ∀ b o, X.base.get? b = some o → s.heap.get? b = some o := fun b o e => (I.bs b o e).1
theorem Inv.mod (I : Inv X pins σ H s) : Mod X.K X.mg X.base := I.ok.mod
theorem Inv.kIn (I : Inv X pins σ H s) : X.K.In s.heap := I.ok.mod.kin.keeps I.bk
theorem Inv.lt (I : Inv X pins σ H s) : X.env.locals < s.heap.objs.size := let ⟨_, hn, _⟩ := I.loc; hn.lt
theorem Inv.sz (I : Inv X pins σ H s) : X.s₀.heap.objs.size ≤ s.heap.objs.size := Nat.le_trans I.ok.above (Nat.le_of_lt I.lt)
theorem Inv.nofs (I : Inv X pins σ H s) {a : Addr} (h : s.heap.objs.size ≤ a) : a ∉ X.fs := fun hb => by
  obtain ⟨_, o, ho, _⟩ := I.ok.funs.mem hb
  exact absurd (Nat.lt_of_lt_of_le (Heap.lt_size ho) (Nat.le_trans I.sz h)) (Nat.lt_irrefl _)
theorem Inv.cne (I : Inv X pins σ H s) : ∀ x c, X.env.cells.lookup x = some c → c ≠ X.env.locals := fun x c e z => by
  obtain ⟨v, o, ho, hd⟩ := I.cell x c e
  obtain ⟨m, ⟨o', es, ep, ho', hd', _⟩, _⟩ := I.loc
  rw [z, ho'] at ho; cases ho; rw [hd'] at hd; cases hd
theorem Inv.funs (I : Inv X pins σ H s) : s.heap.FunFrames X.base X.outer := by
  have all : ∀ (l : List Env), (∀ b ∈ frs l, b ∈ X.fs) → X.s₀.heap.FunFrames X.base l → s.heap.FunFrames X.base l := by
    intro l
    induction l with
    | nil => intro _ _; trivial
    | cons env r ih =>
      intro hs hl
      obtain ⟨hk, ⟨L, o, hf, hn, ho, hd⟩, hr⟩ := hl
      have hL : L ∈ X.fs := hs L (by unfold frs; rw [List.filterMap_cons, hf]; exact List.mem_cons_self)
      obtain ⟨sl, e⟩ := I.base.slot L o ho (I.ok.frf L hL) hL fun z => I.ok.exfs L z hL
      exact ⟨hk, ⟨L, _, hf, hn, e, hd⟩, ih (fun b hb => hs b (by unfold frs; rw [List.filterMap_cons, hf]; exact List.mem_cons_of_mem _ hb)) hr⟩
  exact all X.outer (fun _ hb => hb) I.ok.funs
theorem Inv.stack (I : Inv X pins σ H s) : s.heap.FunFrames X.base X.stack := by
  rcases I.ok.stk with e | ⟨e, hf⟩
  · rw [e]; exact I.funs
  · rw [e]
    obtain ⟨m, hn, _⟩ := I.loc
    refine .cons (by rw [I.ok.kind]; decide) hf hn ?_ I.funs
    exact Heap.get?_none_of_le (Nat.le_trans I.ok.bsz I.ok.above)
theorem Inv.stkSub (I : Inv X pins σ H s) : ∀ b ∈ frs X.stack, b ∈ X.env.locals :: X.fs := fun b hb => by
  rcases I.ok.stk with e | ⟨e, hf⟩
  · rw [e] at hb; exact List.mem_cons_of_mem _ hb
  · rw [e] at hb
    unfold frs at hb
    rw [List.filterMap_cons, hf] at hb
    exact hb
theorem Inv.stkFree (I : Inv X pins σ H s) : ∀ b ∈ frs X.stack, H b = none := fun b hb => by
  rcases List.mem_cons.mp (I.stkSub b hb) with e | hb
  · rw [e]; exact I.free
  · obtain ⟨_, o, ho, _⟩ := I.ok.funs.mem hb
    exact I.base.free b o ho (I.ok.frf b hb) fun z => I.ok.exfs b z hb
theorem Inv.step {g' : Array GenState} {t' : Nat} {d' : Drawn} {ch : List Addr} (I : Inv X pins σ H s)
    (hch : ∀ b ∈ ch, (b ∈ X.ex ∨ X.s₀.heap.objs.size ≤ b) ∧ b ≠ X.env.locals ∧ (∀ x c, X.env.cells.lookup x = some c → c ≠ b) ∧ ∀ p ∈ X.pn ++ pins, p.1 ≠ b)
    (keep : ∀ b o, b ≠ X.env.locals → b ∉ X.fs → b ∉ ch → s.heap.get? b = some o → H b = none → h'.get? b = some o)
    (slot : ∀ b o, b ≠ X.env.locals → b ∈ X.fs → b ∉ ch → s.heap.get? b = some o → H b = none → ∃ sl, h'.get? b = some { o with slots := sl }) (free : ∀ b o, b ∉ ch → s.heap.get? b = some o → H b = none → H' b = none)
    (there : ∀ b o, b ∉ ch → s.heap.get? b = some o → ∃ o', h'.get? b = some o')
    (tups : ∀ b xs, H b = some (.tup xs) → H' b = some (.tup xs)) (frzs : ∀ b o u, H b = some (.frz o u) → H' b = some (.frz o u)) (tbls : ∀ b ps, H b = some (.tbl ps) → ∃ more, H' b = some (.tbl (ps ++ more)))
    (ns : ∀ m, s.heap.Ns X.env.locals m → h'.Ns X.env.locals m) (hok : HOk X.prog X.w H' h') (hg : AllBare g') :
    Inv X pins σ H' { s with heap := h', gens := g', drawn := d', toks := t' } := by
  have neL : ∀ b o, X.s₀.heap.get? b = some o → b ≠ X.env.locals := fun b o e => Nat.ne_of_lt (Nat.lt_of_lt_of_le (Heap.lt_size e) I.ok.above)
  have neC : ∀ b o, X.s₀.heap.get? b = some o → b ∉ X.ex → b ∉ ch := fun b o e hx hb => by
    rcases (hch b hb).1 with z | z
    · exact hx z
    · exact absurd (Nat.lt_of_lt_of_le (Heap.lt_size e) z) (Nat.lt_irrefl _)
  have cellK : ∀ x c, X.env.cells.lookup x = some c → ∀ v, s.heap.IsCell c v → h'.IsCell c v := fun x c e v ⟨o, ho, hd⟩ => by
    have nch : c ∉ ch := fun z => (hch c z).2.2.1 x c e rfl
    by_cases hc : c ∈ X.fs
    · obtain ⟨sl, q⟩ := slot c o (I.cne x c e) hc nch ho (I.freeC x c e)
      exact ⟨_, q, hd⟩
    · exact ⟨o, keep c o (I.cne x c e) hc nch ho (I.freeC x c e), hd⟩
  refine ⟨I.ok, I.os, hg, ⟨fun b o e n hb hx => ?_, fun b o e n hb hx => ?_, fun b o e n hx => ?_, fun b o e hx => ?_, fun b xs e => tups b xs (I.base.tups b xs e), fun b o xs e => frzs b o xs (I.base.frzs b o xs e), fun b ps e => ?_⟩, ?_, fun x c e => ?_, ?_, fun x c e => ?_, fun p hp => ?_, hok, I.len⟩
  · exact keep b o (neL b o e) hb (neC b o e hx) (I.base.keep b o e n hb hx) (I.base.free b o e n hx)
  · obtain ⟨sl, e1⟩ := I.base.slot b o e n hb hx
    obtain ⟨sl', e2⟩ := slot b _ (neL b o e) hb (neC b o e hx) e1 (I.base.free b o e n hx)
    exact ⟨sl', e2⟩
  · obtain ⟨o', e1⟩ := I.base.there b o e hx
    exact free b o' (neC b o e hx) e1 (I.base.free b o e n hx)
  · obtain ⟨o', e1⟩ := I.base.there b o e hx
    exact there b o' (neC b o e hx) e1
  · obtain ⟨m1, e1⟩ := I.base.tbls b ps e
    obtain ⟨m2, e2⟩ := tbls b _ e1
    exact ⟨m1 ++ m2, by rw [e2, Array.append_assoc]⟩
  · obtain ⟨m, hn, hl⟩ := I.loc
    refine ⟨m, ns m hn, fun i x v e1 e2 e3 => ?_⟩
    obtain ⟨u, r, l⟩ := hl i x v e1 e2 e3
    refine ⟨u, r, ?_⟩
    rcases l with l | ⟨k, c, e, z⟩
    · exact .inl l
    · exact .inr ⟨k, c, e, cellK x c e _ z⟩
  · obtain ⟨v, z⟩ := I.cell x c e
    exact ⟨v, cellK x c e v z⟩
  · obtain ⟨m, ⟨o, _, _, ho, _⟩, _⟩ := I.loc
    exact free _ o (fun z => (hch _ z).2.1 rfl) ho I.free
  · obtain ⟨v, o, ho, hd⟩ := I.cell x c e
    exact free c o (fun z => (hch c z).2.2.1 x c e rfl) ho (I.freeC x c e)
  · obtain ⟨e, n, ne, nf, d⟩ := I.pin p hp
    have nch : p.1 ∉ ch := fun z => (hch p.1 z).2.2.2 p hp rfl
    exact ⟨keep p.1 p.2 ne nf nch e n, free p.1 p.2 nch e n, ne, nf, d⟩
theorem Inv.un {t' : Nat} (I : Inv X pins σ H s) (u : Un X.fs [] H H' s.heap h') (hok : HOk X.prog X.w H' h') : Inv X pins σ H' { s with heap := h', toks := t' } := by
  obtain ⟨m, ⟨o, es, ep, ho, r⟩, _⟩ := id I.loc
  obtain ⟨sl, hL⟩ := u.any ho I.free (by simp)
  exact I.step (g' := s.gens) (d' := s.drawn) (ch := []) (fun _ z => nomatch z) (fun b o _ hb _ e n => u.keep b o e n hb (by simp)) (fun b o _ hb _ e n => u.slot b o e n hb (by simp)) (fun b o _ e n => u.free b o e n (by simp)) (fun b o _ e => u.there b o e (by simp)) u.tups u.frzs u.tbls (fun m' hm => by
    obtain ⟨o', es', ep', ho', r'⟩ := hm
    rw [ho] at ho'; cases ho'
    exact ⟨_, es', ep', hL, r'⟩) hok I.bare
theorem Inv.call {g' : Array GenState} {t' : Nat} {d' : Drawn} {ch : List Addr} (I : Inv X pins σ H s) (u : Un (frs X.stack) ch H H' s.heap h') (hok : HOk X.prog X.w H' h') (hg : AllBare g')
    (hch : ∀ b ∈ ch, (b ∈ X.ex ∨ X.s₀.heap.objs.size ≤ b) ∧ b ≠ X.env.locals ∧ (∀ x c, X.env.cells.lookup x = some c → c ≠ b) ∧ ∀ p ∈ X.pn ++ pins, p.1 ≠ b) :
    Inv X pins σ H' { s with heap := h', gens := g', drawn := d', toks := t' } := by
  obtain ⟨m, ⟨o, es, ep, ho, r⟩, _⟩ := id I.loc
  obtain ⟨sl, hL⟩ := u.any ho I.free fun z => (hch _ z).2.1 rfl
  exact I.step (ch := ch) hch (fun b o hL hb hc e n => u.keep b o e n (fun z => (List.mem_cons.mp (I.stkSub b z)).elim hL hb) hc) (fun b o _ _ hc e n => u.any e n hc) (fun b o hc e n => u.free b o e n hc) (fun b o hc e => u.there b o e hc) u.tups u.frzs u.tbls (fun m' hm => by
    obtain ⟨o', es', ep', ho', r'⟩ := hm
    rw [ho] at ho'; cases ho'
    exact ⟨_, es', ep', hL, r'⟩) hok hg
theorem Inv.turned {t' : Nat} {it : Addr} (I : Inv X pins σ H s) (k : ∀ b o, b ≠ it → s.heap.get? b = some o → h'.get? b = some o) (hn : H it = none) (hL : it ≠ X.env.locals)
    (h1 : it ∈ X.ex ∨ X.s₀.heap.objs.size ≤ it) (h2 : ∀ x c, X.env.cells.lookup x = some c → c ≠ it) (h3 : ∀ p ∈ X.pn ++ pins, p.1 ≠ it) : Inv X pins σ H { s with heap := h', toks := t' } := by
  have nit : ∀ b u, H b = some u → b ≠ it := fun b u e z => by rw [z, hn] at e; cases e
  refine I.step (g' := s.gens) (d' := s.drawn) (ch := [it]) (fun b hb => ?_) (fun b o _ _ hc e _ => k b o (fun z => hc (by simp [z])) e) (fun b o _ _ hc e _ => ⟨o.slots, k b o (fun z => hc (by simp [z])) e⟩) (fun _ _ _ _ n => n)
    (fun b o hc e => ⟨o, k b o (fun z => hc (by simp [z])) e⟩) (fun _ _ e => e) (fun _ _ _ e => e) (fun b ps e => ⟨#[], by rw [e]; simp⟩) (fun m hm => ?_) (fun b u e => ?_) I.bare
  · have e : b = it := by simpa using hb
    subst e
    exact ⟨h1, hL, h2, h3⟩
  · obtain ⟨o, es, ep, ho, r⟩ := hm
    exact ⟨o, es, ep, k _ o (Ne.symm hL) ho, r⟩
  · refine (I.hok b u e).stay (fun c v hc q => k c v ?_ q) (fun _ q => q) fun _ _ q => q
    rcases hc with z | z
    · rw [z]; exact nit b u e
    · exact nit c _ z
theorem Inv.tok (I : Inv X pins σ H s) (t : Nat) : Inv X pins σ H { s with toks := t } := I.un (h' := s.heap) (t' := t) Un.refl I.hok
theorem Inv.kept {t' : Nat} (I : Inv X pins σ H s) (k : ∀ b u, s.heap.get? b = some u → h'.get? b = some u) : Inv X pins σ H { s with heap := h', toks := t' } := I.un (Un.kept k) (I.hok.kept k)
theorem Inv.laid {a : Addr} {o : HO} {t' : Nat} (I : Inv X pins σ H s) (k : ∀ b u, s.heap.get? b = some u → h'.get? b = some u) (hp : s.heap.objs.size ≤ a) (new : ObjOk X.prog X.w (upd H a o) h' a o) :
    Inv X pins σ (upd H a o) { s with heap := h', toks := t' } := I.un (Un.laid k hp (I.hok.fresh hp)) (I.hok.laid k hp new)
theorem Inv.write {x e : Addr} {o : HO} {t' : Nat} (I : Inv X pins σ H s) (mu : Mut (H x)) (he : e = x ∨ H e = some (.own x)) (k : ∀ b u, b ≠ e → s.heap.get? b = some u → h'.get? b = some u) (heo : ∃ u, h'.get? e = some u)
    (new : ObjOk X.prog X.w (upd H x o) h' x o) : Inv X pins σ (upd H x o) { s with heap := h', toks := t' } := I.un (Un.write mu he k heo) (I.hok.write mu he k heo new)
theorem Inv.pins_of {pins' : List (Addr × Obj)} (I : Inv X pins σ H s) (h : ∀ p ∈ pins', s.heap.get? p.1 = some p.2 ∧ H p.1 = none ∧ p.1 ≠ X.env.locals ∧ p.1 ∉ X.fs ∧ ∀ v, p.2.data ≠ .cell v) : Inv X pins' σ H s :=
  ⟨I.ok, I.os, I.bare, I.base, I.loc, I.cell, I.free, I.freeC, fun p hp => (List.mem_append.mp hp).elim (fun z => I.pin p (List.mem_append_left _ z)) (h p), I.hok, I.len⟩
theorem nodup_ix {N : List Str} (hN : N.Nodup) {i j : Nat} {x : Str} (a : N[i]? = some x) (b : N[j]? = some x) : i = j := by
  obtain ⟨h1, e1⟩ := List.getElem?_eq_some_iff.mp a
  obtain ⟨h2, e2⟩ := List.getElem?_eq_some_iff.mp b
  exact (List.getElem_inj hN).mp (e1.trans e2.symm)
theorem store_ok2 {M : Model} {A : Around} {E : Value → Shared → Prop} {i : Nat} {x : Str} {v : V} {u : Value} {Q : Unit → Shared → Prop} (I : Inv X pins σ H s) (hN : X.N.Nodup) (hi : X.N[i]? = some x) (hx : Loc X.env.scope x) (r : RelV v u)
    (h : ∀ s', Inv X pins (σ.set i (some v)) H s' → (∃ a, Heap.SameBut a s.heap s'.heap ∧ (a = X.env.locals ∨ X.env.cells.lookup x = some a)) → Q () s') (hf : X.fn x = true ∨ X.env.scope.names.lookup x = some .local := by first | exact .inl rfl | exact .inr rfl | assumption) : wpAny M A (storeName X.env x u) Q E s := by
  obtain ⟨m, hn, hl⟩ := id I.loc
  have hcls : (X.env.scope.kind == .class || (X.env.scope.kind == .module && X.env.locals != X.env.globals)) = false := by rw [I.ok.kind]; rfl
  have hiσ : i < σ.length := by rw [I.len]; exact (List.getElem?_eq_some_iff.mp hi).1
  have cne := I.cne
  have tracked : ∀ {a : Addr} {h' : Heap}, (∃ o, s.heap.get? a = some o ∧ H a = none) → Heap.SameBut a s.heap h' → HOk X.prog X.w H h' := fun {a h'} ha hs b ob e => by
    obtain ⟨_, _, hfree⟩ := ha
    refine (I.hok b ob e).stay (fun c w' hc q => (hs.2 c ?_).trans q) (fun _ q => q) fun _ _ q => q
    rintro rfl
    rcases hc with rfl | hc
    · rw [hfree] at e; cases e
    · rw [hfree] at hc; cases hc
  rcases hx with hk | hk
  · refine wpAny_storeName_local hk hn (fun h' hn' hs => ?_) hcls
    obtain ⟨oL, _, _, hoL, _⟩ := id hn
    refine h _ ⟨I.ok, I.os, I.bare, ⟨fun b o e n hb hx => ?_, fun b o e n hb hx => ?_, I.base.free, fun b o e hx => ?_, I.base.tups, I.base.frzs, I.base.tbls⟩, ⟨_, hn', fun j y v' e1 e2 e3 => ?_⟩, fun y c e => ?_, I.free, I.freeC, fun p hp => ?_, tracked ⟨oL, hoL, I.free⟩ hs, by simpa using I.len⟩ ⟨_, hs, .inl rfl⟩
    · exact (hs.2 b (Nat.ne_of_lt (Nat.lt_of_lt_of_le (Heap.lt_size e) I.ok.above))).trans (I.base.keep b o e n hb hx)
    · obtain ⟨sl, e1⟩ := I.base.slot b o e n hb hx
      exact ⟨sl, (hs.2 b (Nat.ne_of_lt (Nat.lt_of_lt_of_le (Heap.lt_size e) I.ok.above))).trans e1⟩
    · obtain ⟨o', e1⟩ := I.base.there b o e hx
      exact ⟨o', (hs.2 b (Nat.ne_of_lt (Nat.lt_of_lt_of_le (Heap.lt_size e) I.ok.above))).trans e1⟩
    · by_cases hj : j = i
      · subst hj
        rw [hi] at e1; cases e1
        rw [List.getElem?_set_self hiσ] at e2
        cases e2
        exact ⟨u, r, .inl ⟨hk, by simp⟩⟩
      · rw [List.getElem?_set_ne (Ne.symm hj)] at e2
        obtain ⟨u', r', q⟩ := hl j y v' e1 e2 e3
        refine ⟨u', r', ?_⟩
        rcases q with ⟨k, e⟩ | ⟨k, c, e, z⟩
        · refine .inl ⟨k, ?_⟩
          have : y ≠ x := fun e => hj (nodup_ix hN e1 (e ▸ hi))
          simp [this, e]
        · exact .inr ⟨k, c, e, z.sameBut hs (cne y c e)⟩
    · obtain ⟨w', z⟩ := I.cell y c e
      exact ⟨w', z.sameBut hs (cne y c e)⟩
    · obtain ⟨e, n, ne, nf, d⟩ := I.pin p hp
      exact ⟨(hs.2 p.1 ne).trans e, n, ne, nf, d⟩
  · have hfn : X.fn x = true := by
      rcases hf with z | z
      · exact z
      · rw [z] at hk; cases hk
    obtain ⟨c, hc⟩ := I.ok.has x (.inl hk)
    obtain ⟨w', z⟩ := I.cell x c hc
    refine wpAny_storeName_cell I.ok.kind hk hc z (fun h' hc' hs => ?_)
    obtain ⟨oc, hoc, hocd⟩ := id z
    refine h { s with heap := h' } ⟨I.ok, I.os, I.bare, ⟨fun b o e n hb hx => ?_, fun b o e n hb hx => ?_, I.base.free, fun b o e hx => ?_, I.base.tups, I.base.frzs, I.base.tbls⟩, ⟨m, hn.sameBut hs (Ne.symm (cne x c hc)), fun j y v' e1 e2 e3 => ?_⟩, fun y c' e => ?_, I.free, I.freeC, fun p hp => ?_, tracked ⟨oc, hoc, I.freeC x c hc⟩ hs, by simpa using I.len⟩ ⟨c, hs, .inr hc⟩
    · exact (hs.2 b (Nat.ne_of_lt (Nat.lt_of_lt_of_le (Heap.lt_size e) (I.ok.cab x c hfn hc)))).trans (I.base.keep b o e n hb hx)
    · obtain ⟨sl, e1⟩ := I.base.slot b o e n hb hx
      exact ⟨sl, (hs.2 b (Nat.ne_of_lt (Nat.lt_of_lt_of_le (Heap.lt_size e) (I.ok.cab x c hfn hc)))).trans e1⟩
    · obtain ⟨o', e1⟩ := I.base.there b o e hx
      exact ⟨o', (hs.2 b (Nat.ne_of_lt (Nat.lt_of_lt_of_le (Heap.lt_size e) (I.ok.cab x c hfn hc)))).trans e1⟩
    · by_cases hj : j = i
      · subst hj
        rw [hi] at e1; cases e1
        rw [List.getElem?_set_self hiσ] at e2
        cases e2
        exact ⟨u, r, .inr ⟨.inl hk, c, hc, hc'⟩⟩
      · rw [List.getElem?_set_ne (Ne.symm hj)] at e2
        obtain ⟨u', r', q⟩ := hl j y v' e1 e2 e3
        refine ⟨u', r', ?_⟩
        rcases q with q | ⟨k, c', e, z'⟩
        · exact .inl q
        · refine .inr ⟨k, c', e, z'.sameBut hs ?_⟩
          rintro rfl
          exact hj (nodup_ix hN e1 (I.ok.inj _ _ _ e hc ▸ hi))
    · by_cases hcc : c' = c
      · subst hcc; exact ⟨_, hc'⟩
      · obtain ⟨w2, z2⟩ := I.cell y c' e
        exact ⟨w2, z2.sameBut hs hcc⟩
    · obtain ⟨e, n, ne, nf, d⟩ := I.pin p hp
      refine ⟨(hs.2 p.1 ?_).trans e, n, ne, nf, d⟩
      intro q
      rw [q, hoc] at e
      have q' : oc = p.2 := Option.some.inj e
      exact d w' (by rw [← q']; exact hocd)
theorem store_ok {M : Model} {A : Around} {E : Value → Shared → Prop} {i : Nat} {x : Str} {v : V} {u : Value} {Q : Unit → Shared → Prop} (I : Inv X pins σ H s) (hN : X.N.Nodup) (hi : X.N[i]? = some x) (hx : Loc X.env.scope x) (r : RelV v u)
    (h : ∀ s', Inv X pins (σ.set i (some v)) H s' → Q () s') (hf : X.fn x = true ∨ X.env.scope.names.lookup x = some .local := by first | exact .inl rfl | exact .inr rfl | assumption) : wpAny M A (storeName X.env x u) Q E s :=
  store_ok2 I hN hi hx r (fun s' I' _ => h s' I') hf
theorem Inv.call' {s' : Shared} {ch : List Addr} (I : Inv X pins σ H s) (ho : s'.os = s.os) (u : Un (frs X.stack) ch H H' s.heap s'.heap) (hok : HOk X.prog X.w H' s'.heap) (hg : AllBare s'.gens)
    (hch : ∀ b ∈ ch, (b ∈ X.ex ∨ X.s₀.heap.objs.size ≤ b) ∧ b ≠ X.env.locals ∧ (∀ x c, X.env.cells.lookup x = some c → c ≠ b) ∧ ∀ p ∈ X.pn ++ pins, p.1 ≠ b) : Inv X pins σ H' s' := by
  obtain ⟨h', g', d', t', o'⟩ := s'
  have e : o' = s.os := ho
  subst e
  exact I.call (g' := g') (t' := t') (d' := d') u hok hg hch
end
abbrev XK := Value → Option Addr → Hp → Prop
abbrev St := List (Option V)
abbrev VK := V → Hp → Prop
abbrev TE := St → Hp → VK → Prop
abbrev TT := St → Hp → (Bool → Hp → Prop) → Prop
abbrev TA := St → Hp → (List V → Hp → Prop) → Prop
structure Ends where
  nx : St → Hp → Prop
  rt : VK
  bk : St → Hp → Prop := fun _ _ => False
  ct : St → Hp → Prop := fun _ _ => False
abbrev TS := Ends → St → Hp → Prop
def EP (X : Cx) (pins : List (Addr × Obj)) (σ : St) (Q : VK) (u : Value) (s' : Shared) : Prop := ∃ v H', Inv X pins σ H' s' ∧ RelV v u ∧ Q v H'
def TP (X : Cx) (pins : List (Addr × Obj)) (σ : St) (Q : Bool → Hp → Prop) (b : Bool) (s' : Shared) : Prop := ∃ H', Inv X pins σ H' s' ∧ Q b H'
def AP (X : Cx) (pins : List (Addr × Obj)) (σ : St) (Q : List V → Hp → Prop) (us : List Value) (s' : Shared) : Prop := ∃ vs H', Inv X pins σ H' s' ∧ Vals vs us ∧ Q vs H'
def SP (X : Cx) (pins : List (Addr × Obj)) (D : Ends) (f : Flow) (s' : Shared) : Prop :=
  match f with
  | .next => ∃ σ' H', Inv X pins σ' H' s' ∧ D.nx σ' H'
  | .brk => ∃ σ' H', Inv X pins σ' H' s' ∧ D.bk σ' H'
  | .cont => ∃ σ' H', Inv X pins σ' H' s' ∧ D.ct σ' H'
  | .ret u => ∃ v σ' H', Inv X pins σ' H' s' ∧ RelV v u ∧ D.rt v H'
def PE (X : Cx) (e : Expr) (t : TE) : Prop :=
  ∀ (pins : List (Addr × Obj)) (s : Shared) (σ : St) (H : Hp) (Q : VK), Inv X pins σ H s → t σ H Q → wpAny (model X.prog X.w) X.A (eval e X.env) (EP X pins σ Q) X.xe s
def PT (X : Cx) (e : Expr) (t : TT) : Prop :=
  ∀ (pins : List (Addr × Obj)) (s : Shared) (σ : St) (H : Hp) (Q : Bool → Hp → Prop), Inv X pins σ H s → t σ H Q → wpAny (model X.prog X.w) X.A (isTrue e X.env (eval e X.env)) (TP X pins σ Q) X.xe s
def PW (X : Cx) (e : Expr) (t : TT) : Prop :=
  ∀ (whole : Sem Value) (pins : List (Addr × Obj)) (s : Shared) (σ : St) (H : Hp) (Q : Bool → Hp → Prop), Inv X pins σ H s → t σ H Q → wpAny (model X.prog X.w) X.A (isTrue e X.env whole) (TP X pins σ Q) X.xe s
theorem PW.pt {X : Cx} {e : Expr} {t : TT} (h : PW X e t) : PT X e t := h _
def PA (X : Cx) (es : List Expr) (t : TA) : Prop :=
  ∀ (pos : Pos) (pins : List (Addr × Obj)) (s : Shared) (σ : St) (H : Hp) (Q : List V → Hp → Prop), Inv X pins σ H s → t σ H Q → wpAny (model X.prog X.w) X.A (spliced (backTo pos (starEach es X.env))) (AP X pins σ Q) X.xe s
def PS (X : Cx) (st : Stmt) (t : TS) : Prop :=
  ∀ (pins : List (Addr × Obj)) (s : Shared) (σ : St) (H : Hp) (D : Ends), Inv X pins σ H s → t D σ H → wpAny (model X.prog X.w) X.A (exec st X.env) (SP X pins D) X.xe s
def PSs (X : Cx) (st : List Stmt) (t : TS) : Prop :=
  ∀ (pins : List (Addr × Obj)) (s : Shared) (σ : St) (H : Hp) (D : Ends), Inv X pins σ H s → t D σ H → wpAny (model X.prog X.w) X.A (execs st X.env) (SP X pins D) X.xe s
theorem thn {α : Type} {t : Sem α} {Q Q' : α → Shared → Prop} {M : Model} {A : Around} {E : Value → Shared → Prop} {s : Shared} (h : wpAny M A t Q E s) (hQ : ∀ a s, Q a s → Q' a s) : wpAny M A t Q' E s := wpAny_mono h hQ fun _ _ x => x
end L2
namespace L2
open PySem PySem.Spec PyProof.Rows
section
variable {X : Cx}
def tVar (i : Nat) : TE := fun σ H Q => ∃ v, σ[i]? = some (some v) ∧ Q v H
def tC (v : V) : TE := fun _ H Q => Q v H
theorem pe_var {i : Nat} {x : Str} {pos : Pos} (hN : X.N[i]? = some x) (hv : Vis X.env.scope x) (hd : (x == ("__debug__" : Str)) = false := by decide) (hcd : (x == ("__classdict__" : Str)) = false := by decide) : PE X (.Name x pos) (tVar i) := by
  intro pins s σ H Q I h
  obtain ⟨v, e, h⟩ := h
  obtain ⟨m, hn, hl⟩ := I.loc
  obtain ⟨u, r, l⟩ := hl i x v hN e hv
  have fin : EP X pins σ Q u s := ⟨v, H, I, r, h⟩
  rcases l with ⟨hk, hm⟩ | ⟨hk, c, hc, hcell⟩
  · exact wpAny_Name (wpAny_loadName_local I.ok.kind hk hn hm fin) hd
  · rcases hk with hk | hk
    · exact wpAny_Name (wpAny_loadName_cell I.ok.kind hk hc hcell fin) hd
    · exact wpAny_Name (wpAny_loadName_free I.ok.kind hk hc hcell fin hcd) hd
theorem pe_int {i j pos} : PE X (.Constant (.int i) j pos) (tC (.int i)) := fun _ _ _ H _ I h => wpAny_Constant_int ⟨.int i, H, I.tok _, ⟨_, rfl⟩, h⟩
theorem pe_bl {b j pos} : PE X (.Constant (.bool b) j pos) (tC (.bl b)) := fun _ _ _ H _ I h => Constant_bool ⟨.bl b, H, I, rfl, h⟩
theorem pe_non {j pos} : PE X (.Constant .none j pos) (tC .non) := fun _ _ _ H _ I h => Constant_none ⟨.non, H, I, rfl, h⟩
theorem pe_str {x j pos} : PE X (.Constant (.str x) j pos) (tC (.str x)) := fun _ _ _ H _ I h => Calls.Constant_str ⟨.str x, H, I.tok _, ⟨_, rfl⟩, h⟩
def Gl (X : Cx) (x : Str) : Prop := X.env.kindOf x = some .globalImplicit
theorem ld_glob {E : Value → Shared → Prop} {pins : List (Addr × Obj)} {s : Shared} {σ : St} {H : Hp} {x : Str} {u : Value} {pos : Pos} {Q : Value → Shared → Prop} (I : Inv X pins σ H s) (hg : Gl X x) (hm : X.mg x = some u) (h : Q u s)
    (hd : (x == ("__debug__" : Str)) = false := by decide) : wpAny (model X.prog X.w) X.A (eval (.Name x pos) X.env) Q E s :=
  Calls.Name_function_global I.ok.kind hg (Calls.loadGlobal_global (by rw [I.ok.glob]; exact I.mod.glob.keeps I.bk) hm h) hd
theorem ld_blt {E : Value → Shared → Prop} {pins : List (Addr × Obj)} {s : Shared} {σ : St} {H : Hp} {x : Str} {u : Value} {pos : Pos} {Q : Value → Shared → Prop} (I : Inv X pins σ H s) (hg : Gl X x) (hm : X.mg x = none) (hv : bootBuiltins x = some u) (h : Q u s)
    (hn : x ≠ "__name__" := by decide) (hd : (x == ("__debug__" : Str)) = false := by decide) : wpAny (model X.prog X.w) X.A (eval (.Name x pos) X.env) Q E s := by
  obtain ⟨mb, h1, h2⟩ := I.mod.blt
  exact Calls.Name_function_global I.ok.kind hg (Calls.loadGlobal_builtin (by rw [I.ok.glob]; exact I.mod.glob.keeps I.bk) hm (by rw [I.ok.blt]; exact h1.keeps I.bk) ((h2 x hn).trans hv) h) hd
theorem pe_glob {x : Str} {v : V} {u : Value} {pos : Pos} (hg : Gl X x) (hm : X.mg x = some u) (r : RelV v u) (hd : (x == ("__debug__" : Str)) = false := by decide) : PE X (.Name x pos) (tC v) :=
  fun _ _ _ H _ I h => ld_glob I hg hm ⟨v, H, I, r, h⟩ hd
theorem pe_bltn {x : Str} {v : V} {u : Value} {pos : Pos} (hg : Gl X x) (hm : X.mg x = none) (hv : bootBuiltins x = some u) (r : RelV v u) (hn : x ≠ "__name__" := by decide) (hd : (x == ("__debug__" : Str)) = false := by decide) : PE X (.Name x pos) (tC v) :=
  fun _ _ _ H _ I h => ld_blt I hg hm hv ⟨v, H, I, r, h⟩ hn hd
variable {a b : Expr} {ta tb : TE} {pos : Pos}
def PC (X : Cx) (op : CmpOp) (a b : Expr) (t : TE) : Prop :=
  ∀ (pins : List (Addr × Obj)) (s : Shared) (σ : St) (H : Hp) (Q : VK), Inv X pins σ H s → t σ H Q →
    wpAny (model X.prog X.w) X.A (eval a X.env) (fun v s₁ => wpAny (model X.prog X.w) X.A (eval b X.env) (fun u s₂ => wpAny (model X.prog X.w) X.A (compareOp op v u) (EP X pins σ Q) X.xe s₂) X.xe s₁) X.xe s
theorem nobehind (b : Expr) {op : CmpOp} (h : op ≠ .In) (h2 : op ≠ .NotIn) : behindInMarks op b = false := by
  have e1 : (op == CmpOp.In) = false := by cases op <;> first | rfl | exact absurd rfl h
  have e2 : (op == CmpOp.NotIn) = false := by cases op <;> first | rfl | exact absurd rfl h2
  cases b <;> simp [behindInMarks, e1, e2]
def tIsN (ta : TE) : TE := fun σ H Q => ta σ H fun x H1 => Q (.bl (decide (x = .non))) H1
theorem RelV.none_iff {x : V} {v : Value} (r : RelV x v) : (v == Value.none) = decide (x = .non) := by
  cases x with
  | non => cases r; rfl
  | bl _ => cases r; rfl
  | int _ => obtain ⟨t, rfl⟩ := r; rfl
  | str _ => obtain ⟨t, rfl⟩ := r; rfl
  | byt _ => obtain ⟨t, rfl⟩ := r; rfl
  | flt _ => obtain ⟨t, rfl⟩ := r; rfl
  | ref _ => cases r; rfl
  | ty _ => cases r; rfl
theorem pc_isN {j pos'} (ha : PE X a ta) : PC X .Is a (.Constant .none j pos') (tIsN ta) := by
  intro pins s σ H Q I h
  refine thn (ha pins s σ H _ I h) fun v s1 ⟨x, H1, I1, r1, q1⟩ => ?_
  exact Constant_none (is_none_gen ⟨.bl _, H1, I1, by rw [r1.none_iff]; rfl, q1⟩)
def tB (t : TE) : TT := fun σ H Q => t σ H fun x H1 => ∃ c, x = .bl c ∧ Q c H1
theorem pe_cmp {op : CmpOp} {t : TE} (h : PC X op a b t) (h1 : behindInMarks op b = false := by first | exact nobehind _ (by decide) (by decide) | rfl) : PE X (.Compare a [op] [b] pos) t := fun pins s σ H Q I hw => wpAny_Compare1 (h pins s σ H Q I hw) h1
theorem pt_cmp {op : CmpOp} {t : TE} (h : PC X op a b t) (h1 : behindInMarks op b = false := by first | exact nobehind _ (by decide) (by decide) | rfl) : PT X (.Compare a [op] [b] pos) (tB t) := by
  intro pins s σ H Q I hw
  refine wpAny_isTrue_Compare1 (thn (h pins s σ H _ I hw) fun v s1 h1 => thn h1 fun u s2 h2 => thn h2 fun c s3 ⟨x, H1, I1, r1, q1⟩ => ?_) h1
  obtain ⟨d, rfl, q⟩ := q1
  cases r1
  exact wpAny_truthy_bool ⟨H1, I1, q⟩
theorem pt_val {e : Expr} {t : TE} (h : PE X e t) (he : ∀ whole, isTrue e X.env whole = (do let v ← whole; standAt e.pos; holding [v] (truthy v)) := by intro _; rfl) : PT X e (tB t) := by
  intro pins s σ H Q I hw
  refine isTrue_plain (thn (h pins s σ H _ I hw) fun v s1 ⟨x, H1, I1, r1, q1⟩ => ?_) (he _)
  obtain ⟨d, rfl, q⟩ := q1
  cases r1
  exact wpAny_truthy_bool ⟨H1, I1, q⟩
variable {tA tB' : TT} {rest : List Expr}
def tAnd (t u : TT) : TT := fun σ H Q => t σ H fun c H1 => if c = true then u σ H1 Q else Q false H1
def tOr (t u : TT) : TT := fun σ H Q => t σ H fun c H1 => if c = true then Q true H1 else u σ H1 Q
def tNot (t : TT) : TT := fun σ H Q => t σ H fun c H1 => Q (!c) H1
theorem pw_and1 (ha : PT X a tA) : PW X (.BoolOp .And [a] pos) tA := by
  intro wh pins s σ H Q I h
  refine isTrue_and (thn (ha pins s σ H Q I h) fun c s1 e => ?_)
  cases c with
  | true => exact isTrue_and_nil e
  | false => exact e
theorem pw_or1 (ha : PT X a tA) : PW X (.BoolOp .Or [a] pos) tA := by
  intro wh pins s σ H Q I h
  refine isTrue_or (thn (ha pins s σ H Q I h) fun c s1 e => ?_)
  cases c with
  | false => exact isTrue_or_nil e
  | true => exact e
theorem pw_and (ha : PT X a tA) (hb : PW X (.BoolOp .And (b :: rest) pos) tB') : PW X (.BoolOp .And (a :: b :: rest) pos) (tAnd tA tB') := by
  intro wh pins s σ H Q I h
  refine isTrue_and (thn (ha pins s σ H _ I h) fun c s1 ⟨H1, I1, q1⟩ => ?_)
  cases c with
  | true => exact hb wh pins s1 σ H1 Q I1 q1
  | false => exact ⟨H1, I1, q1⟩
theorem pw_or (ha : PT X a tA) (hb : PW X (.BoolOp .Or (b :: rest) pos) tB') : PW X (.BoolOp .Or (a :: b :: rest) pos) (tOr tA tB') := by
  intro wh pins s σ H Q I h
  refine isTrue_or (thn (ha pins s σ H _ I h) fun c s1 ⟨H1, I1, q1⟩ => ?_)
  cases c with
  | true => exact ⟨H1, I1, q1⟩
  | false => exact hb wh pins s1 σ H1 Q I1 q1
theorem pt_not (ha : PT X a tA) : PT X (.UnaryOp .Not a pos) (tNot tA) := by
  intro pins s σ H Q I h
  exact isTrue_not (ha pins s σ H (fun c H1 => Q (!c) H1) I h)
def tAndV (ta tb : TE) : TE := fun σ H Q => ta σ H fun x H1 => ∃ c, x = .bl c ∧ if c = true then tb σ H1 Q else Q (.bl false) H1
def tOrV (ta tb : TE) : TE := fun σ H Q => ta σ H fun x H1 => ∃ c, x = .bl c ∧ if c = true then Q (.bl true) H1 else tb σ H1 Q
theorem pe_one {op} {t : TE} (h : PE X a t) : PE X (.BoolOp op [a] pos) t := fun pins s σ H Q I hw => BoolOp_one (h pins s σ H Q I hw)
theorem pe_and (ha : PE X a ta) (hb : PE X (.BoolOp .And (b :: rest) pos) tb) : PE X (.BoolOp .And (a :: b :: rest) pos) (tAndV ta tb) := by
  intro pins s σ H Q I h
  refine BoolOp_and (thn (ha pins s σ H _ I h) fun v s1 ⟨x, H1, I1, r1, q1⟩ => ?_)
  obtain ⟨c, rfl, q1⟩ := q1
  cases r1
  refine wpAny_truthy_bool ?_
  cases c with
  | true => exact hb pins s1 σ H1 Q I1 q1
  | false => exact ⟨.bl false, H1, I1, rfl, q1⟩
theorem pe_or (ha : PE X a ta) (hb : PE X (.BoolOp .Or (b :: rest) pos) tb) : PE X (.BoolOp .Or (a :: b :: rest) pos) (tOrV ta tb) := by
  intro pins s σ H Q I h
  refine BoolOp_or (thn (ha pins s σ H _ I h) fun v s1 ⟨x, H1, I1, r1, q1⟩ => ?_)
  obtain ⟨c, rfl, q1⟩ := q1
  cases r1
  refine wpAny_truthy_bool ?_
  cases c with
  | false => exact hb pins s1 σ H1 Q I1 q1
  | true => exact ⟨.bl true, H1, I1, rfl, q1⟩
def tIf (t : TT) (ta tb : TE) : TE := fun σ H Q => t σ H fun c H1 => if c = true then ta σ H1 Q else tb σ H1 Q
theorem pe_ifExp {c : Expr} (hc : PT X c tA) (ha : PE X a ta) (hb : PE X b tb) : PE X (.IfExp c a b pos) (tIf tA ta tb) := by
  intro pins s σ H Q I h
  refine wpAny_IfExp (thn (hc pins s σ H _ I h) fun d s1 ⟨H1, I1, q1⟩ => ?_)
  cases d with
  | true => exact ha pins s1 σ H1 Q I1 q1
  | false => exact hb pins s1 σ H1 Q I1 q1
end
end L2
namespace L2
open PySem PySem.Spec PyProof.Rows
def SqL (K : PySem.W.Frag) (H : Hp) (a : Addr) (xs : List V) : Prop :=
  Rd H a (.lst xs) ∨
    ∃ (o : Obj) (its : Array Value) (n : Nat), K.lookup a = some o ∧ o.cls = .type "list" ∧ o.dict = none ∧ o.data = .seq its n ∧ its.size ≤ sizeLine ∧ Vals xs its.toList
def SqT (K : PySem.W.Frag) (H : Hp) (a : Addr) (xs : List V) : Prop :=
  Rd H a (.tup xs) ∨
    ∃ (o : Obj) (its : Array Value) (n : Nat), K.lookup a = some o ∧ o.cls = .type "tuple" ∧ o.data = .seq its n ∧ its.size ≤ sizeLine ∧ Vals xs its.toList
def absV : Value → Option V
  | .none => some .non
  | .bool b => some (.bl b)
  | .int i _ => some (.int i)
  | .str x _ => some (.str x)
  | .bytes b _ => some (.byt b)
  | .float b _ => some (.flt b)
  | .ref a => some (.ref a)
  | .type n => some (.ty n)
  | _ => none
theorem RelV.abs {x : V} {u : Value} (r : RelV x u) : absV u = some x := by
  cases x with
  | non => cases r; rfl
  | bl _ => cases r; rfl
  | int _ => obtain ⟨t, rfl⟩ := r; rfl
  | str _ => obtain ⟨t, rfl⟩ := r; rfl
  | byt _ => obtain ⟨t, rfl⟩ := r; rfl
  | flt _ => obtain ⟨t, rfl⟩ := r; rfl
  | ref _ => cases r; rfl
  | ty _ => cases r; rfl
theorem RelV.inj {x y : V} {u : Value} (r : RelV x u) (q : RelV y u) : x = y := Option.some.inj (r.abs.symm.trans q.abs)
theorem Vals.inj : ∀ {xs ys : List V} {us : List Value}, Vals xs us → Vals ys us → xs = ys
  | _, _, _, .nil, .nil => rfl
  | _, _, _, .cons r t, .cons r' t' => by rw [r.inj r', Vals.inj t t']
section
variable {X : Cx} {pins : List (Addr × Obj)} {σ : St} {H : Hp} {s : Shared} {a : Addr} {xs ys : List V}
theorem SqL.of {K : PySem.W.Frag} (h : H a = some (.lst xs)) : SqL K H a xs := .inl (.inl h)
theorem SqT.of {K : PySem.W.Frag} (h : H a = some (.tup xs)) : SqT K H a xs := .inl (.inl h)
theorem Inv.list (I : Inv X pins σ H s) (h : SqL X.K H a xs) : ∃ its : List Value, Vals xs its ∧ PlainL s.heap a its.toArray ∧ xs.length ≤ sizeLine := by
  rcases h with h | ⟨o, its, n, hk, hc, hd, hs, hz, r⟩
  · obtain ⟨z, its, n, r, e⟩ := h.ok I.hok
    exact ⟨its, r, ⟨_, n, e, rfl, rfl, rfl⟩, z⟩
  · refine ⟨its.toList, r, ⟨o, n, I.kIn a o hk, hc, hd, by simpa using hs⟩, ?_⟩
    have e := r.length
    simp only [Array.length_toList] at e
    omega
theorem Inv.tuple (I : Inv X pins σ H s) (h : SqT X.K H a xs) : ∃ its : List Value, Vals xs its ∧ IsTup s.heap a its.toArray ∧ xs.length ≤ sizeLine := by
  rcases h with h | ⟨o, its, n, hk, hc, hs, hz, r⟩
  · obtain ⟨z, its, r, p⟩ := h.ok I.hok
    exact ⟨its, r, p, z⟩
  · refine ⟨its.toList, r, ⟨o, I.kIn a o hk, hc, n, by simpa using hs⟩, ?_⟩
    have e := r.length
    simp only [Array.length_toList] at e
    omega
theorem Inv.list_inj (I : Inv X pins σ H s) (h : SqL X.K H a xs) (h' : SqL X.K H a ys) : xs = ys := by
  obtain ⟨its, r, ⟨o, n, e, _, _, d⟩, _⟩ := I.list h
  obtain ⟨its', r', ⟨o', n', e', _, _, d'⟩, _⟩ := I.list h'
  rw [e] at e'; cases e'
  rw [d] at d'
  injection d' with d1 _
  have : its = its' := by simpa using congrArg Array.toList d1
  subst this
  exact r.inj r'
theorem Inv.tuple_inj (I : Inv X pins σ H s) (h : SqT X.K H a xs) (h' : SqT X.K H a ys) : xs = ys := by
  obtain ⟨its, r, ⟨o, e, _, n, d⟩, _⟩ := I.tuple h
  obtain ⟨its', r', ⟨o', e', _, n', d'⟩, _⟩ := I.tuple h'
  rw [e] at e'; cases e'
  rw [d] at d'
  injection d' with d1 _
  have : its = its' := by simpa using congrArg Array.toList d1
  subst this
  exact r.inj r'
end
abbrev Cx.wish (X : Cx) (E : Value → Shared → Prop) : Cx := { X with xe := E }
abbrev Cx.nox (X : Cx) : Cx := X.wish fun _ _ => False
theorem Cx.Ok.wish {X : Cx} (ok : X.Ok) (E : Value → Shared → Prop) : (X.wish E).Ok :=
  ⟨ok.mod, ok.kind, ok.glob, ok.blt, ok.above, ok.inj, ok.has, ok.cab, ok.hd, ok.frames, ok.stk, ok.exf, ok.bs, ok.bsz, ok.noex, ok.exfs, ok.funs, ok.frf⟩
theorem Cx.Ok.unwish {X : Cx} {E : Value → Shared → Prop} (ok : (X.wish E).Ok) : X.Ok :=
  ⟨ok.mod, ok.kind, ok.glob, ok.blt, ok.above, ok.inj, ok.has, ok.cab, ok.hd, ok.frames, ok.stk, ok.exf, ok.bs, ok.bsz, ok.noex, ok.exfs, ok.funs, ok.frf⟩
section
variable {X : Cx} {pins : List (Addr × Obj)} {σ : St} {H : Hp} {s : Shared} {E : Value → Shared → Prop}
theorem Inv.wish (I : Inv X pins σ H s) (E : Value → Shared → Prop) : Inv (X.wish E) pins σ H s := ⟨I.ok.wish E, I.os, I.bare, I.base, I.loc, I.cell, I.free, I.freeC, I.pin, I.hok, I.len⟩
theorem Inv.unwish (I : Inv (X.wish E) pins σ H s) : Inv X pins σ H s := ⟨I.ok.unwish, I.os, I.bare, I.base, I.loc, I.cell, I.free, I.freeC, I.pin, I.hok, I.len⟩
theorem SP.unwish {D : Ends} {f : Flow} {s' : Shared} (h : SP (X.wish E) pins D f s') : SP X pins D f s' := by
  cases f with
  | next => obtain ⟨σ', H', I, q⟩ := h; exact ⟨σ', H', I.unwish, q⟩
  | brk => obtain ⟨σ', H', I, q⟩ := h; exact ⟨σ', H', I.unwish, q⟩
  | cont => obtain ⟨σ', H', I, q⟩ := h; exact ⟨σ', H', I.unwish, q⟩
  | ret u => obtain ⟨v, σ', H', I, r, q⟩ := h; exact ⟨v, σ', H', I.unwish, r, q⟩
theorem PSs.nox {st : List Stmt} {t : TS} (h : PSs X.nox st t) : PSs X st t := fun pins s σ H D I hw =>
  wpAny_mono (h pins s σ H D (I.wish _) hw) (fun _ _ q => q.unwish) fun _ _ z => False.elim z
end
section
variable {X : Cx} {st : Stmt} {rest : List Stmt} {t u : TS} {e : Expr} {te : TE} {pos : Pos}
def tNext : TS := fun D σ H => D.nx σ H
def tSeq (t u : TS) : TS := fun D σ H => t { D with nx := u D } σ H
theorem pss_nil : PSs X [] tNext := fun _ _ σ H _ I h => wpAny_execs_nil ⟨σ, H, I, h⟩
theorem pss_cons (h1 : PS X st t) (h2 : PSs X rest u) : PSs X (st :: rest) (tSeq t u) := by
  intro pins s σ H D I h
  refine wpAny_execs_cons (thn (h1 pins s σ H { D with nx := u D } I h) fun f s1 q => ?_)
  cases f with
  | next =>
    obtain ⟨σ', H', I', q⟩ := q
    exact h2 pins s1 σ' H' D I' q
  | ret v => exact q
  | brk => exact q
  | cont => exact q
theorem pss_one (h1 : PS X st t) : PSs X [st] t := by
  intro pins s σ H D I h
  refine wpAny_execs_cons (thn (h1 pins s σ H D I h) fun f s1 q => ?_)
  cases f with
  | next => exact wpAny_execs_nil q
  | ret v => exact q
  | brk => exact q
  | cont => exact q
theorem Inv.quiet {pins : List (Addr × Obj)} {σ : St} {H : Hp} {s : Shared} (I : Inv X pins σ H s) : interactive X.env = false := by simp [interactive, I.ok.kind]
def tDrop (te : TE) : TS := fun D σ H => te σ H fun _ H1 => D.nx σ H1
theorem ps_expr (he : PE X e te) (hs : swapsWith e none pos.line X.env = pure false := by rfl) : PS X (.Expr e pos) (tDrop te) := by
  intro pins s σ H D I h
  exact wpAny_Expr_any (thn (he pins s σ H _ I h) fun v s1 ⟨x, H1, I1, r1, q1⟩ => ⟨σ, H1, I1, q1⟩) I.quiet hs
def tRet (te : TE) : TS := fun D σ H => te σ H D.rt
theorem ps_ret (he : PE X e te) : PS X (.Return (some e) pos) (tRet te) := by
  intro pins s σ H D I h
  exact wpAny_Return_some (thn (he pins s σ H _ I h) fun v s1 ⟨x, H1, I1, r1, q1⟩ => ⟨x, σ, H1, I1, r1, q1⟩)
def tIfS (c : TT) (t u : TS) : TS := fun D σ H => c σ H fun b H1 => if b = true then t D σ H1 else u D σ H1
theorem ps_if {c : Expr} {a b : List Stmt} {tc : TT} (hc : PT X c tc) (ha : PSs X a t) (hb : PSs X b u) : PS X (.If c a b pos) (tIfS tc t u) := by
  intro pins s σ H D I h
  refine wpAny_If (thn (hc pins s σ H _ I h) fun d s1 ⟨H1, I1, q1⟩ => ?_)
  cases d with
  | true => exact ha pins s1 σ H1 D I1 q1
  | false => exact hb pins s1 σ H1 D I1 q1
def tNever : TS := fun _ _ _ => False
theorem ps_never : PS X st tNever := fun _ _ _ _ _ _ h => h.elim
end
abbrev TG := V → St → Hp → (St → Hp → Prop) → Prop
abbrev TGs := List V → St → Hp → (St → Hp → Prop) → Prop
def PG (X : Cx) (target : Expr) (t : TG) : Prop :=
  ∀ (pins : List (Addr × Obj)) (s : Shared) (σ : St) (H : Hp) (v : V) (u : Value) (Q : St → Hp → Prop), Inv X pins σ H s → RelV v u → t v σ H Q →
    wpAny (model X.prog X.w) X.A (assign target X.env u) (fun _ s' => ∃ σ' H', Inv X pins σ' H' s' ∧ Q σ' H') X.xe s
def PGs (X : Cx) (ts : List Expr) (t : TGs) : Prop :=
  ∀ (pins : List (Addr × Obj)) (s : Shared) (σ : St) (H : Hp) (vs : List V) (us : List Value) (Q : St → Hp → Prop), Inv X pins σ H s → Vals vs us → t vs σ H Q →
    wpAny (model X.prog X.w) X.A (assignInOrder ((assignEach ts X.env).map (·.2)) us) (fun _ s' => ∃ σ' H', Inv X pins σ' H' s' ∧ Q σ' H') X.xe s
abbrev TSet := V → V → V → Hp → (Hp → Prop) → Prop
abbrev TIp := V → V → Hp → VK → Prop
section
variable {X : Cx} {pos : Pos}
def gName (i : Nat) : TG := fun v σ H Q => Q (σ.set i (some v)) H
theorem pg_name {i : Nat} {x : Str} (hN : X.N.Nodup) (hi : X.N[i]? = some x) (hx : Loc X.env.scope x) (hf : X.fn x = true ∨ X.env.scope.names.lookup x = some .local := by first | exact .inl rfl | exact .inr rfl | assumption) : PG X (.Name x pos) (gName i) := by
  intro pins s σ H v u Q I r h
  exact wpAny_assign_Name (store_ok I hN hi hx r (fun s' I' => ⟨_, H, I', h⟩) hf)
def gNil : TGs := fun vs σ H Q => vs = [] ∧ Q σ H
def gCons (t : TG) (u : TGs) : TGs := fun vs σ H Q => ∃ v r, vs = v :: r ∧ t v σ H fun σ' H' => u r σ' H' Q
theorem pgs_nil : PGs X [] gNil := by
  intro pins s σ H vs us Q I r h
  obtain ⟨e, h⟩ := h
  subst e
  cases r
  exact assignInOrder_nil ⟨σ, H, I, h⟩
theorem pgs_cons {e : Expr} {es : List Expr} {t : TG} {u : TGs} (h1 : PG X e t) (h2 : PGs X es u)
    (hs : (assignEach (e :: es) X.env).map (·.2) = assign e X.env :: (assignEach es X.env).map (·.2) := by rfl) : PGs X (e :: es) (gCons t u) := by
  intro pins s σ H vs us Q I r h
  obtain ⟨v, vr, e1, h⟩ := h
  subst e1
  cases r with
  | cons r rr =>
    rw [hs]
    refine assignInOrder_cons (thn (h1 pins s σ H _ _ _ I r h) fun _ s1 ⟨σ1, H1, I1, q1⟩ => ?_)
    exact h2 pins s1 σ1 H1 _ _ Q I1 rr q1
def gTup (K : PySem.W.Frag) (n : Nat) (t : TGs) : TG := fun v σ H Q => ∃ a xs, v = .ref a ∧ SqT K H a xs ∧ xs.length = n ∧ t xs σ H Q
theorem pg_tup {es : List Expr} {k : Nat} {t : TGs} {n : Nat} (hc : X.calm = true) (h : PGs X es t)
    (hn : (assignEach es X.env).length = n := by rfl) (hst : (assignEach es X.env).findIdx? (·.1) = none := by rfl) : PG X (.Tuple es k pos) (gTup X.K n t) := by
  intro pins s σ H v u Q I r hw
  obtain ⟨a, xs, e1, hq, hl, hw⟩ := hw
  subst e1
  cases r
  obtain ⟨its, rv, ht, hz⟩ := I.tuple hq
  refine assign_Tuple_tuple (I.ok.hd hc) ht (by simp [hn, ← hl, rv.length]) hst fun h' hx => ?_
  have I1 : Inv X pins σ H { s with heap := h' } := I.kept (t' := s.toks) fun b o e => hx b o (Nat.ne_of_lt (Heap.lt_size e)) e
  exact h pins _ σ H xs _ Q I1 (by simpa using rv) hw
def tAsg (te : TE) (g : TG) : TS := fun D σ H => te σ H fun x H1 => g x σ H1 D.nx
theorem ps_set {i : Nat} {x : Str} {e : Expr} {te : TE} {pos' : Pos} (hN : X.N.Nodup) (hi : X.N[i]? = some x) (hx : Loc X.env.scope x) (he : PE X e te) (hs : swapsWith e (some (.Name x pos')) pos.line X.env = pure false := by rfl) (hf : X.fn x = true ∨ X.env.scope.names.lookup x = some .local := by first | exact .inl rfl | exact .inr rfl | assumption) :
    PS X (.Assign [.Name x pos'] e pos) (tAsg te (gName i)) := by
  intro pins s σ H D I h
  refine wpAny_Assign_Name (thn (he pins s σ H _ I h) fun v s1 ⟨y, H1, I1, r1, q1⟩ => ?_) hs
  exact store_ok I1 hN hi hx r1 (fun s2 I2 => ⟨_, H1, I2, q1⟩) hf
end
section
variable {X : Cx} {pos : Pos}
def tWhile (c : TT) (tb : TS) : TS := fun D σ H => ∃ W : Nat → St → Hp → Prop, (∃ m, W m σ H) ∧ ∀ m σ H, W m σ H →
  c σ H fun b H1 => if b = true then ∃ N : St → Hp → Prop, (∀ σ' H', N σ' H' → ∃ m', m' < m ∧ W m' σ' H') ∧ tb { D with nx := N, ct := N, bk := D.nx } σ H1 else D.nx σ H1
theorem ps_while {c : Expr} {body : List Stmt} {tc : TT} {tb : TS} (hp : PassesOwn (model X.prog X.w) X.A X.env X.xe) (hc : PT X c tc) (hb : PSs X body tb) : PS X (.While c body [] pos) (tWhile tc tb) := by
  intro pins s σ H D I h
  obtain ⟨W, ⟨m0, w0⟩, turn⟩ := h
  refine wpAny_While (codeAny_whileLoop (fun n s' => ∃ σ' H', Inv X pins σ' H' s' ∧ W n σ' H') ?_ m0 ⟨σ, H, I, w0⟩)
  rintro n s1 ⟨σ1, H1, I1, w1⟩
  refine wpAny_passesOwn hp (thn (hc pins s1 σ1 H1 _ I1 (turn n σ1 H1 w1)) fun b s2 ⟨H2, I2, q2⟩ => ?_)
  cases b with
  | true =>
    obtain ⟨N, hN, q2⟩ := q2
    rw [if_pos rfl]
    refine wpAny_passesOwn hp (thn (hb pins s2 σ1 H2 _ I2 q2) fun f s3 q3 => ?_)
    cases f with
    | next =>
      obtain ⟨σ3, H3, I3, n3⟩ := q3
      obtain ⟨m', hm, w3⟩ := hN σ3 H3 n3
      exact ⟨m', hm, σ3, H3, I3, w3⟩
    | cont =>
      obtain ⟨σ3, H3, I3, n3⟩ := q3
      obtain ⟨m', hm, w3⟩ := hN σ3 H3 n3
      exact ⟨m', hm, σ3, H3, I3, w3⟩
    | brk => exact q3
    | ret v => exact q3
  | false =>
    rw [if_neg Bool.false_ne_true]
    exact wpAny_execs_nil ⟨σ1, H2, I2, q2⟩
end
structure It where
  go : Nat → Hp → Prop
  yld : Nat → Hp → V → Hp → Prop
  stop : Nat → Hp → Prop
def FpOk (X : Cx) (pins : List (Addr × Obj)) (H : Hp) (b : Addr) : Prop :=
  H b = none ∧ b ≠ X.env.locals ∧ b ∉ X.fs ∧ (b ∈ X.ex ∨ X.s₀.heap.objs.size ≤ b) ∧ (∀ x c, X.env.cells.lookup x = some c → c ≠ b) ∧ ∀ p ∈ X.pn ++ pins, p.1 ≠ b
theorem Inv.fpOk {X : Cx} {pins : List (Addr × Obj)} {σ : St} {H H' : Hp} {s : Shared} {b : Addr} (I : Inv X pins σ H s) (hb : s.heap.objs.size ≤ b) (hn : H' b = none) : FpOk X pins H' b := by
  refine ⟨hn, Nat.ne_of_gt (Nat.lt_of_lt_of_le I.lt hb), I.nofs hb, .inr (Nat.le_trans I.sz hb), fun x c e z => ?_, fun p hp z => ?_⟩
  · obtain ⟨v, q⟩ := I.cell x c e
    exact absurd (Nat.lt_of_lt_of_le q.lt (by rw [z]; exact hb)) (Nat.lt_irrefl _)
  · exact absurd (Nat.lt_of_lt_of_le (Heap.lt_size (I.pin p hp).1) (by rw [z]; exact hb)) (Nat.lt_irrefl _)
structure Turn (P : Program) (w : World) (K : PySem.W.Frag) (tg : Expr) (J : It) (fp : List Addr) (it : Addr) (tn : Nat → Heap → Prop) : Prop where
  mem : it ∈ fp
  obj : ∀ i h, tn i h → ∀ b ∈ fp, ∃ o, h.get? b = some o ∧ ∀ v, o.data ≠ .cell v
  keep : ∀ i h h', tn i h → (∀ b ∈ fp, ∀ o, h.get? b = some o → h'.get? b = some o) → tn i h'
  item : ∀ (X : Cx), X.prog = P → X.w = w → X.K = K → X.calm = true → ∀ (i : Nat) (pins : List (Addr × Obj)) (s : Shared) (σ : St) (H : Hp) (E : Value → Shared → Prop), Inv X pins σ H s → (∀ b ∈ fp, FpOk X pins H b) → tn i s.heap → J.go i H →
    wpAny (model P w) X.A (pyNext (.ref it)) (fun r s1 => ∃ u, r = some u ∧
      wpAny (model P w) X.A (letOwnedTupleGo tg (.ref it) u) (fun _ s2 => ∃ x H', Inv X pins σ H' s2 ∧ RelV x u ∧ J.yld i H x H' ∧ tn (i + 1) s2.heap ∧ ∀ b ∈ fp, H' b = none) E s1) E s
  done : ∀ (X : Cx), X.prog = P → X.w = w → X.K = K → X.calm = true → ∀ (i : Nat) (pins : List (Addr × Obj)) (s : Shared) (σ : St) (H : Hp) (E : Value → Shared → Prop), Inv X pins σ H s → (∀ b ∈ fp, FpOk X pins H b) → tn i s.heap → J.stop i H →
    wpAny (model P w) X.A (pyNext (.ref it)) (fun r s1 => r = none ∧ Inv X pins σ H s1) E s
  self : ∀ (A : Around) (i : Nat) (s : Shared) (Q : Value → Shared → Prop) (E : Value → Shared → Prop), tn i s.heap → Q (.ref it) s → wpAny (model P w) A (pyIter (.ref it)) Q E s
abbrev TI := St → Hp → (It → Hp → Prop) → Prop
def PIE (X : Cx) (pins : List (Addr × Obj)) (σ : St) (tg : Expr) (R : It → Hp → Prop) (itv : Value) (s2 : Shared) : Prop :=
  ∃ (it : Addr) (fp : List Addr) (tn : Nat → Heap → Prop) (J : It) (H' : Hp), itv = .ref it ∧ Inv X pins σ H' s2 ∧ Turn X.prog X.w X.K tg J fp it tn ∧ tn 0 s2.heap ∧ (∀ b ∈ fp, FpOk X pins H' b) ∧ R J H'
def PI (X : Cx) (tg iter : Expr) (wi : TI) : Prop :=
  ∀ (pins : List (Addr × Obj)) (s : Shared) (σ : St) (H : Hp) (R : It → Hp → Prop), Inv X pins σ H s → wi σ H R →
    wpAny (model X.prog X.w) X.A (eval iter X.env) (fun v s1 => wpAny (model X.prog X.w) X.A (pyIter v) (PIE X pins σ tg R) X.xe s1) X.xe s
theorem go_of {M : Model} {A : Around} {E : Value → Shared → Prop} {s : Shared} {tg : Expr} {it : Addr} {u : Value} {o : Obj} {n : String} {vs : Array Value} {Q : Unit → Shared → Prop} (ho : s.heap.get? it = some o) (hc : o.cls = .type n) (hd : o.data = .fields vs)
    (hn : ["enumerate", "zip", "dict_itemiterator", "dict_reverseitemiterator", "odict_iterator", "itertools.zip_longest", "itertools.pairwise"].contains n = false) (hQ : Q () s) : wpAny M A (letOwnedTupleGo tg (.ref it) u) Q E s := by
  unfold letOwnedTupleGo
  cases tg <;> first
    | exact wpAny_pure hQ
    | (cases u <;> first
        | exact wpAny_pure hQ
        | (refine wpAny_bind (wpAny_load ho ?_)
           rw [hc, hd]
           show wpAny M A (if (["enumerate", "zip", "dict_itemiterator", "dict_reverseitemiterator", "odict_iterator", "itertools.zip_longest", "itertools.pairwise"].contains n && vs[0]? == some (rawInt _)) = true then _ else _) Q E s
           rw [if_neg (by intro h; rw [hn, Bool.false_and] at h; cases h)]
           exact wpAny_pure hQ))
def Itl (K : PySem.W.Frag) (a : Addr) : It :=
  ⟨fun i H => ∃ xs x, SqL K H a xs ∧ xs[i]? = some x, fun i H x H' => H' = H ∧ ∀ xs, SqL K H a xs → xs[i]? = some x, fun i H => ∃ xs, SqL K H a xs ∧ xs.length ≤ i⟩
def Itt (K : PySem.W.Frag) (a : Addr) : It :=
  ⟨fun i H => ∃ xs x, SqT K H a xs ∧ xs[i]? = some x, fun i H x H' => H' = H ∧ ∀ xs, SqT K H a xs → xs[i]? = some x, fun i H => ∃ xs, SqT K H a xs ∧ xs.length ≤ i⟩
def Itr (lo : Int) (n : Nat) : It := ⟨fun i _ => i < n, fun i H x H' => H' = H ∧ x = .int (lo + i), fun i _ => n ≤ i⟩
theorem turn_list {P : Program} {w : World} {K : PySem.W.Frag} {tg : Expr} (a it : Addr) : Turn P w K tg (Itl K a) [it] it (fun i h => h.IsListIter it a i) where
  mem := by simp
  obj := fun i h st b hb => by
    have e : b = it := by simpa using hb
    subst e
    obtain ⟨o, e, c, d⟩ := st
    exact ⟨o, e, fun v z => by rw [d] at z; cases z⟩
  keep := fun i h h' st k => st.at fun o e => k it (by simp) o e
  item := by
    intro X hP hw hK hc i pins s σ H E I hf st hg
    subst hP hw hK
    obtain ⟨xs, x, hq, hx⟩ := hg
    obtain ⟨its, rv, p, hz⟩ := I.list hq
    obtain ⟨u, hu, ru⟩ := rv.get hx
    obtain ⟨f0, f1, f2, f3, f4, f5⟩ := hf it (by simp)
    refine wpAny_pyNext_list_item st p.isList (x := u) (by simpa using hu) fun h' st' sb => ?_
    have I1 : Inv X pins σ H { s with heap := h' } := I.turned (t' := s.toks) (fun b o hb e => (sb.2 b hb).trans e) f0 f1 f3 f4 f5
    obtain ⟨o, e, c, d⟩ := id st'
    exact ⟨u, rfl, go_of (s := { s with heap := h' }) e c d (by decide) ⟨x, H, I1, ru, ⟨rfl, fun ys hy => by rw [I.list_inj hy hq]; exact hx⟩, st', fun b hb => (hf b hb).1⟩⟩
  done := by
    intro X hP hw hK hc i pins s σ H E I hf st hg
    subst hP hw hK
    obtain ⟨xs, hq, hx⟩ := hg
    obtain ⟨its, rv, p, hz⟩ := I.list hq
    obtain ⟨f0, f1, f2, f3, f4, f5⟩ := hf it (by simp)
    have hl := rv.length
    exact wpAny_pyNext_list_end (I.ok.hd hc) st p.isList (by simp; omega) fun h' eb => ⟨rfl, I.turned (t' := s.toks) (fun b o hb e => eb b o hb e) f0 f1 f3 f4 f5⟩
  self := fun _ _ _ _ _ st h => wpAny_pyIter_listiter st h
theorem turn_tuple {P : Program} {w : World} {K : PySem.W.Frag} {tg : Expr} (a it : Addr) : Turn P w K tg (Itt K a) [it] it (fun i h => h.IsTupleIter it a i) where
  mem := by simp
  obj := fun i h st b hb => by
    have e : b = it := by simpa using hb
    subst e
    obtain ⟨o, e, c, d⟩ := st
    exact ⟨o, e, fun v z => by rw [d] at z; cases z⟩
  keep := fun i h h' st k => st.at fun o e => k it (by simp) o e
  item := by
    intro X hP hw hK hc i pins s σ H E I hf st hg
    subst hP hw hK
    obtain ⟨xs, x, hq, hx⟩ := hg
    obtain ⟨its, rv, p, hz⟩ := I.tuple hq
    obtain ⟨u, hu, ru⟩ := rv.get hx
    obtain ⟨f0, f1, f2, f3, f4, f5⟩ := hf it (by simp)
    refine wpAny_pyNext_tuple_item st (show s.heap.IsTuple a its.toArray from p) (x := u) (by simpa using hu) fun h' st' sb => ?_
    have I1 : Inv X pins σ H { s with heap := h' } := I.turned (t' := s.toks) (fun b o hb e => (sb.2 b hb).trans e) f0 f1 f3 f4 f5
    obtain ⟨o, e, c, d⟩ := id st'
    exact ⟨u, rfl, go_of (s := { s with heap := h' }) e c d (by decide) ⟨x, H, I1, ru, ⟨rfl, fun ys hy => by rw [I.tuple_inj hy hq]; exact hx⟩, st', fun b hb => (hf b hb).1⟩⟩
  done := by
    intro X hP hw hK hc i pins s σ H E I hf st hg
    subst hP hw hK
    obtain ⟨xs, hq, hx⟩ := hg
    obtain ⟨its, rv, p, hz⟩ := I.tuple hq
    obtain ⟨f0, f1, f2, f3, f4, f5⟩ := hf it (by simp)
    have hl := rv.length
    exact wpAny_pyNext_tuple_end (I.ok.hd hc) st (show s.heap.IsTuple a its.toArray from p) (by simp; omega) fun h' eb => ⟨rfl, I.turned (t' := s.toks) (fun b o hb e => eb b o hb e) f0 f1 f3 f4 f5⟩
  self := fun _ _ _ _ _ st h => wpAny_pyIter_tupleiter st h
theorem turn_range {P : Program} {w : World} {K : PySem.W.Frag} {tg : Expr} (it : Addr) (lo : Int) (n : Nat) : Turn P w K tg (Itr lo n) [it] it (fun i h => IsRangeIter h it (lo + (i : Nat) * 1) ((n : Int) - (i : Nat)) 1) where
  mem := by simp
  obj := fun i h st b hb => by
    have e : b = it := by simpa using hb
    subst e
    exact ⟨_, st, fun v z => by
      have z' : Data.fields _ = Data.cell v := z
      cases z'⟩
  keep := fun i h h' st k => k it (by simp) _ st
  item := by
    intro X hP hw hK hc i pins s σ H E I hf st hg
    subst hP hw hK
    obtain ⟨f0, f1, f2, f3, f4, f5⟩ := hf it (by simp)
    have W := Walks.range (prog := X.prog) (w := X.w) (I.ok.hd hc) it lo 1 n
    refine W.item i s _ _ hg st fun v h' tk hv st' kk => ?_
    obtain ⟨t, rfl⟩ := hv
    have I1 : Inv X pins σ H { s with heap := h', toks := tk } := I.turned (fun b o hb e => kk b o (by simpa using hb) e) f0 f1 f3 f4 f5
    refine ⟨_, rfl, go_of (s := { s with heap := h', toks := tk }) (n := "range_iterator") st' rfl rfl (by decide) ⟨.int (lo + i), H, I1, ⟨t, ?_⟩, ⟨rfl, rfl⟩, st', fun b hb => (hf b hb).1⟩⟩
    rw [Int.mul_one]
  done := by
    intro X hP hw hK hc i pins s σ H E I hf st hg
    subst hP hw hK
    obtain ⟨f0, f1, f2, f3, f4, f5⟩ := hf it (by simp)
    exact wpAny_pyNext_range_end (I.ok.hd hc) st (by have : n ≤ i := hg; omega) fun h' eb => ⟨rfl, I.turned (t' := s.toks) (fun b o hb e => eb b o hb e) f0 f1 f3 f4 f5⟩
  self := fun _ _ _ _ _ st h => wpAny_pyIter_rangeiter st h
end L2
namespace L2
open PySem PySem.Spec PyProof.Rows
section
variable {X : Cx} {tg : Expr}
def iList (K : PySem.W.Frag) (tl : TE) : TI := fun σ H R => tl σ H fun x H1 => ∃ a, x = .ref a ∧ (∃ xs, SqL K H1 a xs) ∧ R (Itl K a) H1
def iTup (K : PySem.W.Frag) (tl : TE) : TI := fun σ H R => tl σ H fun x H1 => ∃ a, x = .ref a ∧ (∃ xs, SqT K H1 a xs) ∧ R (Itt K a) H1
theorem pi_list {l : Expr} {tl : TE} (hl : PE X l tl) : PI X tg l (iList X.K tl) := by
  intro pins s σ H R I h
  refine thn (hl pins s σ H _ I h) fun v s1 ⟨x, H1, I1, r1, q1⟩ => ?_
  obtain ⟨a, e, ⟨xs, hq⟩, q⟩ := q1
  subst e
  cases r1
  obtain ⟨its, rv, p, hz⟩ := I1.list hq
  refine wpAny_pyIter_list p.isList ?_
  refine ⟨s1.heap.objs.size, [s1.heap.objs.size], _, _, H1, rfl, I1.kept (t' := s1.toks) fun b o e => Heap.get?_push_of_some _ e, turn_list a _, ⟨_, Heap.get?_push_size _ rfl, rfl, rfl⟩, fun b hb => ?_, q⟩
  have e : b = s1.heap.objs.size := by simpa using hb
  subst e
  exact I1.fpOk (Nat.le_refl _) (I1.hok.fresh (Nat.le_refl _))
theorem pi_tup {l : Expr} {tl : TE} (hl : PE X l tl) : PI X tg l (iTup X.K tl) := by
  intro pins s σ H R I h
  refine thn (hl pins s σ H _ I h) fun v s1 ⟨x, H1, I1, r1, q1⟩ => ?_
  obtain ⟨a, e, ⟨xs, hq⟩, q⟩ := q1
  subst e
  cases r1
  obtain ⟨its, rv, p, hz⟩ := I1.tuple hq
  refine wpAny_pyIter_tuple (show s1.heap.IsTuple a its.toArray from p) ?_
  refine ⟨s1.heap.objs.size, [s1.heap.objs.size], _, _, H1, rfl, I1.kept (t' := s1.toks) fun b o e => Heap.get?_push_of_some _ e, turn_tuple a _, ⟨_, Heap.get?_push_size _ rfl, rfl, rfl⟩, fun b hb => ?_, q⟩
  have e : b = s1.heap.objs.size := by simpa using hb
  subst e
  exact I1.fpOk (Nat.le_refl _) (I1.hok.fresh (Nat.le_refl _))
theorem range_it {pins : List (Addr × Obj)} {σ : St} {H : Hp} {s : Shared} {R : It → Hp → Prop} {E : Value → Shared → Prop} {lo hi : Int} {t u v : Tok} {tk : Nat} (I : Inv X pins σ H s) (h1 : -(2 ^ 62) ≤ lo) (h2 : lo < 2 ^ 62) (h3 : -(2 ^ 62) ≤ hi) (h4 : hi < 2 ^ 62)
    (q : R (Itr lo (hi - lo).toNat) H) : wpAny (model X.prog X.w) X.A (pyIter (.ref s.heap.objs.size)) (PIE X pins σ tg R) E { s with heap := s.heap.push { cls := .type "range", data := .fields #[.int lo t, .int hi u, .int 1 v] }, toks := tk } := by
  refine wpAny_pyIter_range (IsRange.new ..) (small_one h1 h2 h3 h4) ?_
  have I1 : Inv X pins σ H { s with heap := s.heap.push { cls := .type "range", data := .fields #[.int lo t, .int hi u, .int 1 v] }, toks := tk } := I.kept fun b o e => Heap.get?_push_of_some _ e
  refine ⟨(s.heap.push { cls := .type "range", data := .fields #[.int lo t, .int hi u, .int 1 v] }).objs.size, [(s.heap.push { cls := .type "range", data := .fields #[.int lo t, .int hi u, .int 1 v] }).objs.size], _, _, H, rfl,
    I1.kept (t' := tk) fun b o e => Heap.get?_push_of_some _ e, turn_range _ lo (hi - lo).toNat, ?_, fun b hb => ?_, q⟩
  · have e1 : lo + ((0 : Nat) : Int) * 1 = lo := by simp
    have e2 : (((hi - lo).toNat : Nat) : Int) - ((0 : Nat) : Int) = Builtin.Range.rangeSize lo hi 1 := by rw [rangeSize_one]; split <;> omega
    show IsRangeIter _ _ (lo + ((0 : Nat) : Int) * 1) ((((hi - lo).toNat : Nat) : Int) - ((0 : Nat) : Int)) 1
    rw [e1, e2]
    exact Heap.get?_push_size _ rfl
  · have e : b = (s.heap.push { cls := .type "range", data := .fields #[.int lo t, .int hi u, .int 1 v] }).objs.size := by simpa using hb
    subst e
    exact I1.fpOk (Nat.le_refl _) (I1.hok.fresh (Nat.le_refl _))
def iRng1 (ta : TA) : TI := fun σ H R => ta σ H fun vs H1 => ∃ j : Int, vs = [.int j] ∧ -(2 ^ 62) ≤ j ∧ j < 2 ^ 62 ∧ R (Itr 0 j.toNat) H1
theorem pi_range1 {a : Expr} {ta : TA} {p pos : Pos} (hg : Gl X "range") (hm : X.mg "range" = none) (ha : PA X [a] ta) (hs : starEach [a] X.env = [(false, eval a X.env)] := by rfl) : PI X tg (.Call (.Name "range" p) [a] [] pos) (iRng1 ta) := by
  intro pins s σ H R I h
  refine Call_ (ld_blt I hg hm boot_range (PyProof.Rows.callWith_type1 (thn (ha pos pins s σ H _ I h) fun us s1 ⟨vs, H1, I1, r1, q1⟩ => ?_) hs rfl))
  obtain ⟨j, e, q1, q2, q⟩ := q1
  subst e
  cases r1 with
  | cons r rr =>
    cases rr
    obtain ⟨t, rfl⟩ := r
    exact call_range_1 (range_it I1 (by omega) (by omega) q1 q2 (by simpa using q))
def tFor (wi : TI) (g : TG) (tb : TS) : TS := fun D σ H => wi σ H fun J H1 => ∃ W : Nat → Nat → St → Hp → Prop, (∃ m, W 0 m σ H1) ∧ ∀ i m σ H, W i m σ H →
  (J.stop i H ∧ D.nx σ H) ∨ (J.go i H ∧ ∃ N : St → Hp → Prop, (∀ σ' H', N σ' H' → ∃ m', m' < m ∧ W (i + 1) m' σ' H') ∧ ∀ x H', J.yld i H x H' → g x σ H' fun σ2 H2 => tb { D with nx := N, ct := N, bk := D.nx } σ2 H2)
def pinsAt (fp : List Addr) (h : Heap) : List (Addr × Obj) := fp.filterMap fun b => (h.get? b).map fun o => (b, o)
theorem mem_pinsAt {fp : List Addr} {h : Heap} {b : Addr} {o : Obj} (hb : b ∈ fp) (e : h.get? b = some o) : (b, o) ∈ pinsAt fp h := List.mem_filterMap.mpr ⟨b, hb, by rw [e]; rfl⟩
theorem of_pinsAt {fp : List Addr} {h : Heap} {p : Addr × Obj} (hp : p ∈ pinsAt fp h) : p.1 ∈ fp ∧ h.get? p.1 = some p.2 := by
  obtain ⟨b, hb, e⟩ := List.mem_filterMap.mp hp
  cases q : h.get? b with
  | none => rw [q] at e; cases e
  | some o =>
    rw [q] at e
    have e' : (b, o) = p := Option.some.inj e
    subst e'
    exact ⟨hb, q⟩
theorem Inv.pinned {pins : List (Addr × Obj)} {σ : St} {H : Hp} {s : Shared} {fp : List Addr} (I : Inv X pins σ H s) (hf : ∀ b ∈ fp, FpOk X pins H b) (ho : ∀ b ∈ fp, ∃ o, s.heap.get? b = some o ∧ ∀ v, o.data ≠ .cell v) : Inv X (pins ++ pinsAt fp s.heap) σ H s :=
  I.pins_of fun p hp => (List.mem_append.mp hp).elim (fun z => I.pin p (List.mem_append_right _ z)) fun z => by
    obtain ⟨hb, e⟩ := of_pinsAt z
    obtain ⟨f0, f1, f2, _⟩ := hf p.1 hb
    obtain ⟨o, e', d⟩ := ho p.1 hb
    rw [e] at e'; cases e'
    exact ⟨e, f0, f1, f2, d⟩
theorem Inv.unpinned {pins pl : List (Addr × Obj)} {σ : St} {H : Hp} {s : Shared} (I : Inv X (pins ++ pl) σ H s) : Inv X pins σ H s := I.pins_of fun p hp => I.pin p (List.mem_append_right _ (List.mem_append_left _ hp))
theorem ps_for {iter : Expr} {body : List Stmt} {wi : TI} {g : TG} {tb : TS} {pos : Pos} (hp : PassesOwn (model X.prog X.w) X.A X.env X.xe) (hc : X.calm = true) (hi : PI X tg iter wi) (hg : PG X tg g) (hb : PSs X body tb)
    (hs : ∀ x, foldedSetIterable iter X.env x = pure x := by intro _; rfl) : PS X (.For tg iter body [] pos) (tFor wi g tb) := by
  intro pins s σ H D I h
  refine wpAny_For (thn (hi pins s σ H _ I h) fun v s1 h1 => thn h1 fun itv s2 h2 => ?_) hs
  obtain ⟨it, fp, tn, J, H2, e, I2, T, st2, f2, W, ⟨m0, w0⟩, turn⟩ := h2
  subst e
  have stat : ∀ {H' : Hp}, (∀ b ∈ fp, H' b = none) → ∀ b ∈ fp, FpOk X pins H' b := fun hn b hb => ⟨hn b hb, (f2 b hb).2⟩
  refine codeAny_forLoop_any (fun n s' => ∃ i σ' H', Inv X pins σ' H' s' ∧ tn i s'.heap ∧ (∀ b ∈ fp, H' b = none) ∧ W i n σ' H') ?_ m0 ⟨0, σ, H2, I2, st2, fun b hb => (f2 b hb).1, w0⟩
  rintro n s3 ⟨i, σ3, H3, I3, st3, fr3, w3⟩
  rcases turn i n σ3 H3 w3 with ⟨stop, qn⟩ | ⟨go, N, hN, step⟩
  · refine wpAny_passesOwn hp (thn (T.done X rfl rfl rfl hc i pins s3 σ3 H3 X.xe I3 (stat fr3) st3 stop) fun r s4 ⟨hr, I4⟩ => ?_)
    subst hr
    exact wpAny_execs_nil ⟨σ3, H3, I4, qn⟩
  · refine wpAny_passesOwn hp (thn (T.item X rfl rfl rfl hc i pins s3 σ3 H3 X.xe I3 (stat fr3) st3 go) fun r s4 ⟨u, hr, h4⟩ => ?_)
    subst hr
    refine wpAny_passesOwn hp (thn h4 fun _ s5 ⟨x, H5, I5, r5, y5, st5, fr5⟩ => ?_)
    have I5' := I5.pinned (stat fr5) (T.obj _ _ st5)
    refine wpAny_passesOwn hp (thn (hg _ s5 σ3 H5 x u _ I5' r5 (step x H5 y5)) fun _ s6 ⟨σ6, H6, I6, q6⟩ => ?_)
    refine wpAny_passesOwn hp (thn (hb _ s6 σ6 H6 _ I6 q6) fun f s7 q7 => ?_)
    have again : ∀ {σ7 : St} {H7 : Hp}, Inv X (pins ++ pinsAt fp s5.heap) σ7 H7 s7 → N σ7 H7 → ∃ m, m < n ∧ ∃ i σ' H', Inv X pins σ' H' s7 ∧ tn i s7.heap ∧ (∀ b ∈ fp, H' b = none) ∧ W i m σ' H' := fun {σ7 H7} I7 n7 => by
      obtain ⟨m', hm, w7⟩ := hN σ7 H7 n7
      refine ⟨m', hm, i + 1, σ7, H7, I7.unpinned, T.keep _ _ _ st5 fun b hb o e => (I7.pin (b, o) (List.mem_append_right _ (List.mem_append_right _ (mem_pinsAt hb e)))).1, fun b hb => ?_, w7⟩
      obtain ⟨o, e, d⟩ := T.obj _ _ st5 b hb
      exact (I7.pin (b, o) (List.mem_append_right _ (List.mem_append_right _ (mem_pinsAt hb e)))).2.1
    cases f with
    | next => obtain ⟨σ7, H7, I7, n7⟩ := q7; exact again I7 n7
    | cont => obtain ⟨σ7, H7, I7, n7⟩ := q7; exact again I7 n7
    | brk => obtain ⟨σ7, H7, I7, q7⟩ := q7; exact ⟨σ7, H7, I7.unpinned, q7⟩
    | ret v => obtain ⟨x7, σ7, H7, I7, r7, q7⟩ := q7; exact ⟨x7, σ7, H7, I7.unpinned, r7, q7⟩
end
theorem for_list {K : PySem.W.Frag} {a : Addr} {xs : List V} {g : TG} {tb : TS} {D : Ends} {σ : St} {H : Hp} (Pv : Nat → St → Hp → Prop) (h0 : Pv 0 σ H) (hl : ∀ i σ H, i ≤ xs.length → Pv i σ H → SqL K H a xs)
    (hs : ∀ i x σ H, xs[i]? = some x → Pv i σ H → g x σ H fun σ2 H2 => tb { D with nx := Pv (i + 1), ct := Pv (i + 1), bk := D.nx } σ2 H2) (hd : ∀ σ H, Pv xs.length σ H → D.nx σ H) :
    ∃ W : Nat → Nat → St → Hp → Prop, (∃ m, W 0 m σ H) ∧ ∀ i m σ H, W i m σ H →
      ((Itl K a).stop i H ∧ D.nx σ H) ∨ ((Itl K a).go i H ∧ ∃ N : St → Hp → Prop, (∀ σ' H', N σ' H' → ∃ m', m' < m ∧ W (i + 1) m' σ' H') ∧ ∀ x H', (Itl K a).yld i H x H' → g x σ H' fun σ2 H2 => tb { D with nx := N, ct := N, bk := D.nx } σ2 H2) := by
  refine ⟨fun i m σ H => m = xs.length - i ∧ i ≤ xs.length ∧ Pv i σ H, ⟨xs.length, by simp, Nat.zero_le _, h0⟩, ?_⟩
  rintro i m σ H ⟨rfl, hi, p⟩
  have q := hl i σ H hi p
  by_cases hlt : i < xs.length
  · refine .inr ⟨⟨xs, xs[i], q, by simp [hlt]⟩, Pv (i + 1), fun σ' H' p' => ⟨xs.length - (i + 1), by omega, rfl, hlt, p'⟩, fun x H' y => ?_⟩
    obtain ⟨e, y⟩ := y
    subst e
    exact hs i x σ _ (y xs q) p
  · have e : i = xs.length := by omega
    subst e
    exact .inl ⟨⟨xs, q, Nat.le_refl _⟩, hd σ H p⟩
theorem for_tup {K : PySem.W.Frag} {a : Addr} {xs : List V} {g : TG} {tb : TS} {D : Ends} {σ : St} {H : Hp} (Pv : Nat → St → Hp → Prop) (h0 : Pv 0 σ H) (hl : ∀ i σ H, i ≤ xs.length → Pv i σ H → SqT K H a xs)
    (hs : ∀ i x σ H, xs[i]? = some x → Pv i σ H → g x σ H fun σ2 H2 => tb { D with nx := Pv (i + 1), ct := Pv (i + 1), bk := D.nx } σ2 H2) (hd : ∀ σ H, Pv xs.length σ H → D.nx σ H) :
    ∃ W : Nat → Nat → St → Hp → Prop, (∃ m, W 0 m σ H) ∧ ∀ i m σ H, W i m σ H →
      ((Itt K a).stop i H ∧ D.nx σ H) ∨ ((Itt K a).go i H ∧ ∃ N : St → Hp → Prop, (∀ σ' H', N σ' H' → ∃ m', m' < m ∧ W (i + 1) m' σ' H') ∧ ∀ x H', (Itt K a).yld i H x H' → g x σ H' fun σ2 H2 => tb { D with nx := N, ct := N, bk := D.nx } σ2 H2) := by
  refine ⟨fun i m σ H => m = xs.length - i ∧ i ≤ xs.length ∧ Pv i σ H, ⟨xs.length, by simp, Nat.zero_le _, h0⟩, ?_⟩
  rintro i m σ H ⟨rfl, hi, p⟩
  have q := hl i σ H hi p
  by_cases hlt : i < xs.length
  · refine .inr ⟨⟨xs, xs[i], q, by simp [hlt]⟩, Pv (i + 1), fun σ' H' p' => ⟨xs.length - (i + 1), by omega, rfl, hlt, p'⟩, fun x H' y => ?_⟩
    obtain ⟨e, y⟩ := y
    subst e
    exact hs i x σ _ (y xs q) p
  · have e : i = xs.length := by omega
    subst e
    exact .inl ⟨⟨xs, q, Nat.le_refl _⟩, hd σ H p⟩
theorem for_range {lo : Int} {n : Nat} {g : TG} {tb : TS} {D : Ends} {σ : St} {H : Hp} (Pv : Nat → St → Hp → Prop) (h0 : Pv 0 σ H)
    (hs : ∀ i σ H, i < n → Pv i σ H → g (.int (lo + i)) σ H fun σ2 H2 => tb { D with nx := Pv (i + 1), ct := Pv (i + 1), bk := D.nx } σ2 H2) (hd : ∀ σ H, Pv n σ H → D.nx σ H) :
    ∃ W : Nat → Nat → St → Hp → Prop, (∃ m, W 0 m σ H) ∧ ∀ i m σ H, W i m σ H →
      ((Itr lo n).stop i H ∧ D.nx σ H) ∨ ((Itr lo n).go i H ∧ ∃ N : St → Hp → Prop, (∀ σ' H', N σ' H' → ∃ m', m' < m ∧ W (i + 1) m' σ' H') ∧ ∀ x H', (Itr lo n).yld i H x H' → g x σ H' fun σ2 H2 => tb { D with nx := N, ct := N, bk := D.nx } σ2 H2) := by
  refine ⟨fun i m σ H => m = n - i ∧ i ≤ n ∧ Pv i σ H, ⟨n, by simp, Nat.zero_le _, h0⟩, ?_⟩
  rintro i m σ H ⟨rfl, hi, p⟩
  by_cases hlt : i < n
  · refine .inr ⟨hlt, Pv (i + 1), fun σ' H' p' => ⟨n - (i + 1), by omega, rfl, hlt, p'⟩, fun x H' y => ?_⟩
    obtain ⟨e, y⟩ := y
    subst e y
    exact hs i σ _ hlt p
  · have e : i = n := by omega
    subst e
    exact .inl ⟨Nat.le_refl _, hd σ H p⟩
theorem while_by {c : TT} {tb : TS} {D : Ends} {σ : St} {H : Hp} (Pv : St → Hp → Prop) (μ : St → Hp → Nat) (h0 : Pv σ H)
    (hs : ∀ σ H, Pv σ H → c σ H fun b H1 => if b = true then tb { D with nx := fun σ' H' => Pv σ' H' ∧ μ σ' H' < μ σ H, ct := fun σ' H' => Pv σ' H' ∧ μ σ' H' < μ σ H, bk := D.nx } σ H1 else D.nx σ H1)
    (mono : ∀ σ H Q Q', (∀ b H1, Q b H1 → Q' b H1) → c σ H Q → c σ H Q') : tWhile c tb D σ H := by
  refine ⟨fun m σ H => m = μ σ H ∧ Pv σ H, ⟨_, rfl, h0⟩, ?_⟩
  rintro m σ H ⟨rfl, p⟩
  refine mono σ H _ _ (fun b H1 q => ?_) (hs σ H p)
  cases b with
  | true => exact ⟨_, fun σ' H' ⟨p', l⟩ => ⟨_, l, rfl, p'⟩, q⟩
  | false => exact q
end L2
namespace L2
open PySem PySem.Spec PyProof.Rows
abbrev R2 := V → V → Hp → VK → Prop
def OpR (X : Cx) (f : Value → Value → Sem Value) (r : R2) : Prop :=
  ∀ (pins : List (Addr × Obj)) (s : Shared) (σ : St) (H : Hp) (x y : V) (v u : Value) (Q : VK), Inv X pins σ H s → RelV x v → RelV y u → r x y H Q →
    wpAny (model X.prog X.w) X.A (f v u) (EP X pins σ Q) X.xe s
def UnR (X : Cx) (f : Value → Sem Value) (r : V → Hp → VK → Prop) : Prop :=
  ∀ (pins : List (Addr × Obj)) (s : Shared) (σ : St) (H : Hp) (x : V) (v : Value) (Q : VK), Inv X pins σ H s → RelV x v → r x H Q →
    wpAny (model X.prog X.w) X.A (f v) (EP X pins σ Q) X.xe s
def CallR (X : Cx) (f : Value) (r : List V → Hp → VK → Prop) : Prop :=
  ∀ (pins : List (Addr × Obj)) (s : Shared) (σ : St) (H : Hp) (xs : List V) (us : List Value) (Q : VK), Inv X pins σ H s → Vals xs us → r xs H Q →
    wpAny (model X.prog X.w) X.A (call f us) (EP X pins σ Q) X.xe s
def TruR (X : Cx) (r : V → Hp → (Bool → Hp → Prop) → Prop) : Prop :=
  ∀ (pins : List (Addr × Obj)) (s : Shared) (σ : St) (H : Hp) (x : V) (v : Value) (Q : Bool → Hp → Prop), Inv X pins σ H s → RelV x v → r x H Q →
    wpAny (model X.prog X.w) X.A (truthy v) (TP X pins σ Q) X.xe s
def tOp (r : R2) (ta tb : TE) : TE := fun σ H Q => ta σ H fun x H1 => tb σ H1 fun y H2 => r x y H2 Q
def tUn (r : V → Hp → VK → Prop) (ta : TE) : TE := fun σ H Q => ta σ H fun x H1 => r x H1 Q
def rI (C : Int → Int → Prop) (g : Int → Int → V) : R2 := fun x y H Q => ∃ i j, x = .int i ∧ y = .int j ∧ C i j ∧ Q (g i j) H
def rI0 (g : Int → Int → V) : R2 := fun x y H Q => ∃ i j, x = .int i ∧ y = .int j ∧ Q (g i j) H
def rU (g : Int → V) : V → Hp → VK → Prop := fun x H Q => ∃ i, x = .int i ∧ Q (g i) H
section
variable {X : Cx} {a b c : Expr} {ta tb tc : TE} {pos : Pos}
theorem binT (ha : PE X a ta) (hb : PE X b tb) {pins : List (Addr × Obj)} {s : Shared} {σ : St} {H : Hp} {R : V → V → Hp → Prop} (I : Inv X pins σ H s)
    (h : ta σ H fun x H1 => tb σ H1 fun y H2 => R x y H2) {Q : Value → Shared → Prop} {f : Value → Value → Sem Value}
    (hf : ∀ v u s2 x y H2, Inv X pins σ H2 s2 → RelV x v → RelV y u → R x y H2 → wpAny (model X.prog X.w) X.A (f v u) Q X.xe s2) :
    wpAny (model X.prog X.w) X.A (eval a X.env) (fun v s₁ => wpAny (model X.prog X.w) X.A (eval b X.env) (fun u s₂ => wpAny (model X.prog X.w) X.A (f v u) Q X.xe s₂) X.xe s₁) X.xe s := by
  refine thn (ha pins s σ H _ I h) fun v s1 ⟨x, H1, I1, r1, q1⟩ => ?_
  refine thn (hb pins s1 σ H1 _ I1 q1) fun u s2 ⟨y, H2, I2, r2, q2⟩ => ?_
  exact hf v u s2 x y H2 I2 r1 r2 q2
theorem pe_op {op : Operator} {r : R2} (ho : OpR X (binaryOp op) r) (ha : PE X a ta) (hb : PE X b tb) : PE X (.BinOp a op b pos) (tOp r ta tb) := by
  intro pins s σ H Q I h
  exact wpAny_BinOp (binT ha hb I h fun v u s2 x y H2 I2 rx ry q => ho pins s2 σ H2 x y v u Q I2 rx ry q)
theorem pe_un {op : UnaryOp} {r : V → Hp → VK → Prop} (ho : UnR X (unaryOp op) r) (ha : PE X a ta) : PE X (.UnaryOp op a pos) (tUn r ta) := by
  intro pins s σ H Q I h
  exact UnaryOp_ (thn (ha pins s σ H _ I h) fun v s1 ⟨x, H1, I1, r1, q1⟩ => ho pins s1 σ H1 x v Q I1 r1 q1)
theorem opI {f : Value → Value → Sem Value} {C : Int → Int → Prop} {g : Int → Int → Int}
    (rule : ∀ (i j : Int) (t u : Tok) (s : Shared) (Q : Value → Shared → Prop) (E : Value → Shared → Prop), C i j → Q (.int (g i j) s.toks) { s with toks := s.toks + 1 } → wpAny (model X.prog X.w) X.A (f (.int i t) (.int j u)) Q E s) :
    OpR X f (rI C fun i j => .int (g i j)) := by
  intro pins s σ H x y v u Q I rx ry h
  obtain ⟨i, j, rfl, rfl, hc, q⟩ := h
  obtain ⟨t, rfl⟩ := rx
  obtain ⟨t', rfl⟩ := ry
  exact rule i j t t' s _ _ hc ⟨.int (g i j), H, I.tok _, ⟨_, rfl⟩, q⟩
theorem opI0 {f : Value → Value → Sem Value} {g : Int → Int → Int}
    (rule : ∀ (i j : Int) (t u : Tok) (s : Shared) (Q : Value → Shared → Prop) (E : Value → Shared → Prop), Q (.int (g i j) s.toks) { s with toks := s.toks + 1 } → wpAny (model X.prog X.w) X.A (f (.int i t) (.int j u)) Q E s) :
    OpR X f (rI0 fun i j => .int (g i j)) := by
  intro pins s σ H x y v u Q I rx ry h
  obtain ⟨i, j, rfl, rfl, q⟩ := h
  obtain ⟨t, rfl⟩ := rx
  obtain ⟨t', rfl⟩ := ry
  exact rule i j t t' s _ _ ⟨.int (g i j), H, I.tok _, ⟨_, rfl⟩, q⟩
theorem opB0 {f : Value → Value → Sem Value} {g : Int → Int → Bool}
    (rule : ∀ (i j : Int) (t u : Tok) (s : Shared) (Q : Value → Shared → Prop) (E : Value → Shared → Prop), Q (.bool (g i j)) s → wpAny (model X.prog X.w) X.A (f (.int i t) (.int j u)) Q E s) :
    OpR X f (rI0 fun i j => .bl (g i j)) := by
  intro pins s σ H x y v u Q I rx ry h
  obtain ⟨i, j, rfl, rfl, q⟩ := h
  obtain ⟨t, rfl⟩ := rx
  obtain ⟨t', rfl⟩ := ry
  exact rule i j t t' s _ _ ⟨.bl (g i j), H, I, rfl, q⟩
def CDiv (i j : Int) : Prop := 0 < j ∧ j < 1073741824
def CPow (i j : Int) : Prop := 0 ≤ j ∧ j ≤ 1000000 ∧ i.natAbs < 2 ^ 64
def CMul (i j : Int) : Prop := (-(2 ^ 64) < i ∧ i < 2 ^ 64) ∨ (-(2 ^ 64) < j ∧ j < 2 ^ 64)
theorem CMul.ok {i j : Int} (h : CMul i j) : IntMulOk i j := by
  rcases h with ⟨h1, h2⟩ | ⟨h1, h2⟩
  · exact .of_left (intBits_le_64 h1 h2)
  · exact .of_right (intBits_le_64 h1 h2)
theorem op_add : OpR X (binaryOp .Add) (rI0 fun i j => .int (i + j)) := opI0 fun _ _ _ _ _ _ _ q => add_int q
theorem op_sub : OpR X (binaryOp .Sub) (rI0 fun i j => .int (i - j)) := opI0 fun _ _ _ _ _ _ _ q => sub_int q
theorem op_mul : OpR X (binaryOp .Mult) (rI CMul fun i j => .int (i * j)) := opI fun _ _ _ _ _ _ _ hc q => mul_int q hc.ok
theorem op_fdiv : OpR X (binaryOp .FloorDiv) (rI CDiv fun i j => .int (i / j)) := opI fun i j _ _ _ _ _ hc q => by
  have h1 : (0 : Int) < j := hc.1
  have h2 : j < 1073741824 := hc.2
  exact floordiv_int (by omega) (by rw [Int.fdiv_eq_ediv_of_nonneg i (by omega)]; exact q) (.inl (PyProof.noPylong_small (by omega)))
theorem op_mod : OpR X (binaryOp .Mod) (rI (fun _ j => 0 < j) fun i j => .int (i % j)) := opI fun i j _ _ _ _ _ hc q => by
  have h1 : (0 : Int) < j := hc
  exact mod_int' (by omega) (by rw [Int.fmod_eq_emod_of_nonneg i (by omega)]; exact q)
theorem op_pow : OpR X (binaryOp .Pow) (rI CPow fun i j => .int (i ^ j.toNat)) := opI fun _ _ _ _ _ _ _ hc q => pow_int_small hc.1 hc.2.1 hc.2.2 q
theorem unI {f : Value → Sem Value} {g : Int → Int}
    (rule : ∀ (i : Int) (t : Tok) (s : Shared) (Q : Value → Shared → Prop) (E : Value → Shared → Prop), Q (.int (g i) s.toks) { s with toks := s.toks + 1 } → wpAny (model X.prog X.w) X.A (f (.int i t)) Q E s) :
    UnR X f (rU fun i => .int (g i)) := by
  intro pins s σ H x v Q I rx h
  obtain ⟨i, rfl, q⟩ := h
  obtain ⟨t, rfl⟩ := rx
  exact rule i t s _ _ ⟨.int (g i), H, I.tok _, ⟨_, rfl⟩, q⟩
theorem un_neg : UnR X (unaryOp .USub) (rU fun i => .int (-i)) := unI fun _ _ _ _ _ q => neg_int q
end
def scal : V → V → Bool
  | .non, .non => true | .non, .int _ => true | .int _, .non => true | .non, .bl _ => true | .bl _, .non => true | .non, .str _ => true | .str _, .non => true
  | .int _, .int _ => true | .bl _, .bl _ => true | .str _, .str _ => true | .byt _, .byt _ => true
  | .int _, .str _ => true | .str _, .int _ => true | .bl _, .str _ => true | .str _, .bl _ => true
  | _, _ => false
def rEq : R2 := fun x y H Q => scal x y = true ∧ Q (.bl (decide (x = y))) H
def rNe : R2 := fun x y H Q => scal x y = true ∧ Q (.bl (!decide (x = y))) H
theorem dec_int {i j : Int} : decide (V.int i = V.int j) = (i == j) := by
  rw [Bool.eq_iff_iff]
  simp
theorem dec_bl {i j : Bool} : decide (V.bl i = V.bl j) = (i == j) := by
  rw [Bool.eq_iff_iff]
  simp
theorem dec_str {i j : Str} : decide (V.str i = V.str j) = (i == j) := by
  rw [Bool.eq_iff_iff]
  simp
theorem dec_byt {i j : Array UInt8} : decide (V.byt i = V.byt j) = (i.toList == j.toList) := by
  rw [Bool.eq_iff_iff]
  cases i
  cases j
  simp
section
variable {X : Cx} {a b c : Expr} {ta tb tc : TE} {pos : Pos}
theorem fin_bl {pins : List (Addr × Obj)} {σ : St} {H : Hp} {s : Shared} {Q : VK} {k k' : Bool} (I : Inv X pins σ H s) (q : Q (.bl k) H) (e : k = k') : EP X pins σ Q (.bool k') s := by
  subst e
  exact ⟨.bl k, H, I, rfl, q⟩
theorem op_eq : OpR X (compareOp .Eq) rEq := by
  intro pins s σ H x y v u Q I rx ry h
  obtain ⟨hs, q⟩ := h
  cases x with
  | non =>
    cases rx
    cases y with
    | non => cases ry; exact PySem.EqNone.eq_none_none (fin_bl I q (by simp))
    | bl j => cases ry; exact PySem.EqNone.eq_none_bool (fin_bl I q (by simp))
    | int j => obtain ⟨t', rfl⟩ := ry; exact PySem.EqNone.eq_none_int (fin_bl I q (by simp))
    | str j => obtain ⟨t', rfl⟩ := ry; exact PySem.EqNone.eq_none_str (fin_bl I q (by simp))
    | _ => exact absurd (show false = true from hs) Bool.false_ne_true
  | bl i =>
    cases rx
    cases y with
    | non => cases ry; exact PySem.EqNone.eq_bool_none (fin_bl I q (by simp))
    | bl j => cases ry; exact eq_bool (fin_bl I q dec_bl)
    | str j => obtain ⟨t', rfl⟩ := ry; exact PySem.EqMixed.eq_bool_str (fin_bl I q (by simp))
    | _ => exact absurd (show false = true from hs) Bool.false_ne_true
  | int i =>
    obtain ⟨t, rfl⟩ := rx
    cases y with
    | non => cases ry; exact PySem.EqNone.eq_int_none (fin_bl I q (by simp))
    | int j => obtain ⟨t', rfl⟩ := ry; exact eq_int (fin_bl I q dec_int)
    | str j => obtain ⟨t', rfl⟩ := ry; exact PySem.EqMixed.eq_int_str (fin_bl I q (by simp))
    | _ => exact absurd (show false = true from hs) Bool.false_ne_true
  | str i =>
    obtain ⟨t, rfl⟩ := rx
    cases y with
    | non => cases ry; exact PySem.EqNone.eq_str_none (fin_bl I q (by simp))
    | bl j => cases ry; exact PySem.EqMixed.eq_str_bool (fin_bl I q (by simp))
    | int j => obtain ⟨t', rfl⟩ := ry; exact PySem.EqMixed.eq_str_int (fin_bl I q (by simp))
    | str j => obtain ⟨t', rfl⟩ := ry; exact eq_str (fin_bl I q dec_str)
    | _ => exact absurd (show false = true from hs) Bool.false_ne_true
  | byt i =>
    obtain ⟨t, rfl⟩ := rx
    cases y with
    | byt j => obtain ⟨t', rfl⟩ := ry; exact PySem.W.eq_bytes (fin_bl I q dec_byt)
    | _ => exact absurd (show false = true from hs) Bool.false_ne_true
  | _ => cases y <;> exact absurd (show false = true from hs) Bool.false_ne_true
theorem op_ne : OpR X (compareOp .NotEq) rNe := by
  intro pins s σ H x y v u Q I rx ry h
  obtain ⟨hs, q⟩ := h
  cases x with
  | non =>
    cases rx
    cases y with
    | non => cases ry; exact PySem.EqNone.ne_none_none (fin_bl I q (by simp))
    | bl j => cases ry; exact PySem.EqNone.ne_none_bool (fin_bl I q (by simp))
    | int j => obtain ⟨t', rfl⟩ := ry; exact PySem.EqNone.ne_none_int (fin_bl I q (by simp))
    | str j => obtain ⟨t', rfl⟩ := ry; exact PySem.EqNone.ne_none_str (fin_bl I q (by simp))
    | _ => exact absurd (show false = true from hs) Bool.false_ne_true
  | bl i =>
    cases rx
    cases y with
    | non => cases ry; exact PySem.EqNone.ne_bool_none (fin_bl I q (by simp))
    | bl j => cases ry; exact ne_bool (fin_bl I q (congrArg not dec_bl))
    | str j => obtain ⟨t', rfl⟩ := ry; exact PySem.EqMixed.ne_bool_str (fin_bl I q (by simp))
    | _ => exact absurd (show false = true from hs) Bool.false_ne_true
  | int i =>
    obtain ⟨t, rfl⟩ := rx
    cases y with
    | non => cases ry; exact PySem.EqNone.ne_int_none (fin_bl I q (by simp))
    | int j => obtain ⟨t', rfl⟩ := ry; exact ne_int (fin_bl I q (congrArg not dec_int))
    | str j => obtain ⟨t', rfl⟩ := ry; exact PySem.EqMixed.ne_int_str (fin_bl I q (by simp))
    | _ => exact absurd (show false = true from hs) Bool.false_ne_true
  | str i =>
    obtain ⟨t, rfl⟩ := rx
    cases y with
    | non => cases ry; exact PySem.EqNone.ne_str_none (fin_bl I q (by simp))
    | bl j => cases ry; exact PySem.EqMixed.ne_str_bool (fin_bl I q (by simp))
    | int j => obtain ⟨t', rfl⟩ := ry; exact PySem.EqMixed.ne_str_int (fin_bl I q (by simp))
    | str j => obtain ⟨t', rfl⟩ := ry; exact ne_str (fin_bl I q (congrArg not dec_str))
    | _ => exact absurd (show false = true from hs) Bool.false_ne_true
  | byt i =>
    obtain ⟨t, rfl⟩ := rx
    cases y with
    | byt j => obtain ⟨t', rfl⟩ := ry; exact PySem.W.ne_bytes (fin_bl I q (congrArg not dec_byt))
    | _ => exact absurd (show false = true from hs) Bool.false_ne_true
  | _ => cases y <;> exact absurd (show false = true from hs) Bool.false_ne_true
theorem op_lt : OpR X (compareOp .Lt) (rI0 fun i j => .bl (decide (i < j))) := opB0 fun _ _ _ _ _ _ _ q => lt_int q
theorem op_le : OpR X (compareOp .LtE) (rI0 fun i j => .bl (decide (i ≤ j))) := opB0 fun _ _ _ _ _ _ _ q => le_int q
theorem op_gt : OpR X (compareOp .Gt) (rI0 fun i j => .bl (decide (j < i))) := opB0 fun _ _ _ _ _ _ _ q => gt_int q
theorem op_in_str : OpR X (compareOp .In) (fun x y H Q => ∃ i j, x = .str i ∧ y = .str j ∧ Q (.bl (!(Builtin.Str.occurrences j i 0 j.length 1).isEmpty)) H) := by
  intro pins s σ H x y v u Q I rx ry h
  obtain ⟨i, j, rfl, rfl, q⟩ := h
  obtain ⟨t, rfl⟩ := rx
  obtain ⟨t', rfl⟩ := ry
  exact in_str (fin_bl I q rfl)
theorem op_notin_str : OpR X (compareOp .NotIn) (fun x y H Q => ∃ i j, x = .str i ∧ y = .str j ∧ Q (.bl (!(!(Builtin.Str.occurrences j i 0 j.length 1).isEmpty))) H) := by
  intro pins s σ H x y v u Q I rx ry h
  obtain ⟨i, j, rfl, rfl, q⟩ := h
  obtain ⟨t, rfl⟩ := rx
  obtain ⟨t', rfl⟩ := ry
  exact notIn_str (fin_bl I q rfl)
theorem nomark (b : Expr) {op : CmpOp} (h : op ≠ .In := by decide) (h2 : op ≠ .NotIn := by decide) : behindInMarks op b = false := by
  have e1 : (op == CmpOp.In) = false := by cases op <;> first | rfl | exact absurd rfl h
  have e2 : (op == CmpOp.NotIn) = false := by cases op <;> first | rfl | exact absurd rfl h2
  cases b <;> simp [behindInMarks, e1, e2]
theorem pe_cmpR {op : CmpOp} {r : R2} (ho : OpR X (compareOp op) r) (ha : PE X a ta) (hb : PE X b tb) (hm : behindInMarks op b = false) : PE X (.Compare a [op] [b] pos) (tOp r ta tb) := by
  intro pins s σ H Q I h
  exact wpAny_Compare1 (binT ha hb I h fun v u s2 x y H2 I2 rx ry q => ho pins s2 σ H2 x y v u Q I2 rx ry q) hm
def tTest (t : TE) : TT := fun σ H Q => t σ H fun x H' => ∃ k, x = .bl k ∧ Q k H'
theorem pt_cmpR {op : CmpOp} {r : R2} (ho : OpR X (compareOp op) r) (ha : PE X a ta) (hb : PE X b tb) (hm : behindInMarks op b = false) : PT X (.Compare a [op] [b] pos) (tTest (tOp r ta tb)) := by
  intro pins s σ H Q I h
  refine wpAny_isTrue_Compare1 (thn (ha pins s σ H _ I h) fun v s1 ⟨x, H1, I1, r1, q1⟩ => thn (hb pins s1 σ H1 _ I1 q1) fun u s2 ⟨y, H2, I2, r2, q2⟩ =>
    thn (ho pins s2 σ H2 x y v u _ I2 r1 r2 q2) fun c s3 ⟨z, H3, I3, r3, k, e, q3⟩ => ?_) hm
  subst e
  cases r3
  exact wpAny_truthy_bool ⟨H3, I3, q3⟩
def tChain (r r' : R2) (ta tb tc : TE) : TE := fun σ H Q => ta σ H fun x H1 => tb σ H1 fun y H2 => r x y H2 fun z H3 => ∃ k, z = .bl k ∧
  (if k = true then tc σ H3 fun w' H4 => r' y w' H4 Q else Q (.bl false) H3)
theorem pt_chain {op op' : CmpOp} {r r' : R2} (ho : OpR X (compareOp op) r) (ho' : OpR X (compareOp op') r') (ha : PE X a ta) (hb : PE X b tb) (hc : PE X c tc)
    (hm : lastMarks [op, op'] [b, c] = false := by with_unfolding_all rfl) : PT X (.Compare a [op, op'] [b, c] pos) (tTest (tChain r r' ta tb tc)) := by
  intro pins s σ H Q I h
  refine isTrue_chain (thn (ha pins s σ H _ I h) fun v s1 ⟨x, H1, I1, r1, q1⟩ => test_link (thn (hb pins s1 σ H1 _ I1 q1) fun u s2 ⟨y, H2, I2, r2, q2⟩ =>
    thn (ho pins s2 σ H2 x y v u _ I2 r1 r2 q2) fun d s3 ⟨z, H3, I3, r3, k, e, q3⟩ => ?_)) hm
  subst e
  cases r3
  refine wpAny_truthy_bool ?_
  cases k with
  | false =>
    obtain ⟨k', e', q'⟩ := q3
    cases e'
    exact ite_ff ⟨H3, I3, q'⟩
  | true =>
    refine ite_tt (test_last (thn (hc pins s3 σ H3 _ I3 q3) fun w' s4 ⟨z', H4, I4, r4, q4⟩ => thn (ho' pins s4 σ H4 y z' u w' _ I4 r2 r4 q4) fun d' s5 ⟨z2, H5, I5, r5, k2, e2, q5⟩ => ?_))
    subst e2
    cases r5
    exact wpAny_truthy_bool ⟨H5, I5, q5⟩
def TruV (K : PySem.W.Frag) (x : V) (H : Hp) (k : Bool) : Prop :=
  match x with
  | .non => k = false
  | .bl b => k = b
  | .int i => k = (i != 0)
  | .str y => y.length ≤ sizeLine ∧ k = ((y.length : Int) != 0)
  | .byt y => y.size ≤ sizeLine ∧ k = ((y.size : Int) != 0)
  | .ref p => (∃ xs, SqL K H p xs ∧ k = !xs.isEmpty) ∨ (∃ xs, SqT K H p xs ∧ k = !xs.isEmpty) ∨ ∃ kvs, H p = some (.dK kvs) ∧ k = !kvs.isEmpty
  | _ => False
theorem isEmpty_kv {κ : Type} {kvs : List (κ × V)} {vs : List (κ × Value)} (r : KV kvs vs) : (!vs.isEmpty) = !kvs.isEmpty := by
  cases r <;> rfl
theorem isEmpty_of {xs : List V} {its : List Value} (r : Vals xs its) : (!its.toArray.isEmpty) = !xs.isEmpty := by
  cases r <;> simp
theorem line63 : (sizeLine : Nat) < 2 ^ 63 := by rw [sizeLine_eq]; decide
theorem tru_ok : TruR X (fun x H Q => ∃ k, TruV X.K x H k ∧ Q k H) := by
  intro pins s σ H x v Q I rx h
  obtain ⟨k, e, q⟩ := h
  have hl := line63
  have hs : sizeLine = 16777216 := sizeLine_eq
  cases x with
  | non =>
    cases rx
    have e' : k = false := e
    subst e'
    exact truthy_none ⟨H, I, q⟩
  | bl b =>
    cases rx
    have e' : k = b := e
    subst e'
    exact wpAny_truthy_bool ⟨H, I, q⟩
  | int i =>
    obtain ⟨t, rfl⟩ := rx
    have e' : k = (i != 0) := e
    subst e'
    exact PySem.P.truthy_int ⟨H, I, q⟩
  | str y =>
    obtain ⟨t, rfl⟩ := rx
    obtain ⟨hy, e'⟩ : y.length ≤ sizeLine ∧ k = ((y.length : Int) != 0) := e
    subst e'
    exact PySem.P.truthy_str (by omega) ⟨H, I.tok _, q⟩
  | byt y =>
    obtain ⟨t, rfl⟩ := rx
    obtain ⟨hy, e'⟩ : y.size ≤ sizeLine ∧ k = ((y.size : Int) != 0) := e
    subst e'
    exact PySem.W.truthy_bytes (by omega) ⟨H, I.tok _, q⟩
  | ref p =>
    cases rx
    have e' : (∃ xs, SqL X.K H p xs ∧ k = !xs.isEmpty) ∨ (∃ xs, SqT X.K H p xs ∧ k = !xs.isEmpty) ∨ ∃ kvs, H p = some (.dK kvs) ∧ k = !kvs.isEmpty := e
    rcases e' with ⟨xs, hx, e'⟩ | ⟨xs, hx, e'⟩ | ⟨kvs, hx, e'⟩
    · subst e'
      obtain ⟨its, r, pl, hz⟩ := I.list hx
      have hlen := r.length
      exact wpAny_truthy_list pl.isList (by simp only [List.size_toArray]; omega) ⟨H, I.tok _, by rw [isEmpty_of r]; exact q⟩
    · subst e'
      obtain ⟨its, r, pl, hz⟩ := I.tuple hx
      have hlen := r.length
      exact truthy_tuple pl (by simp only [List.size_toArray]; omega) ⟨H, I.tok _, by rw [isEmpty_of r]; exact q⟩
    · subst e'
      obtain ⟨hz, hS, vs, r, m⟩ : kvs.length ≤ sizeLine ∧ (p == sysModules) = false ∧ ∃ vs, KV kvs vs ∧ s.heap.DictOf (mixKind X.prog X.w) p vs := I.hok p _ hx
      have hlen : kvs.length = vs.length := Paired.length r
      exact wpAny_truthy_dict hS m (by omega) ⟨H, I.tok _, by rw [isEmpty_kv r]; exact q⟩
  | _ => exact (show False from e).elim
theorem pt_truth (ha : PE X a ta) (he : ∀ whole, isTrue a X.env whole = (do let v ← whole; standAt a.pos; holding [v] (truthy v))) :
    PT X a (fun σ H Q => ta σ H fun x H' => ∃ k, TruV X.K x H' k ∧ Q k H') := by
  intro pins s σ H Q I h
  exact isTrue_plain (thn (ha pins s σ H _ I h) fun v s1 ⟨x, H1, I1, r1, q1⟩ => tru_ok pins s1 σ H1 x v Q I1 r1 q1) (he _)
theorem op_add_str : OpR X (binaryOp .Add) (fun x y H Q => ∃ i j, x = .str i ∧ y = .str j ∧ i.length + j.length ≤ sizeLine ∧ Q (.str (i ++ j)) H) := by
  intro pins s σ H x y v u Q I rx ry h
  obtain ⟨i, j, rfl, rfl, hz, q⟩ := h
  obtain ⟨t, rfl⟩ := rx
  obtain ⟨t', rfl⟩ := ry
  exact add_str (fun t' tk => ⟨.str (i ++ j), H, I.tok _, ⟨_, rfl⟩, q⟩) hz
theorem vals1 {x : V} {us : List Value} (r : Vals [x] us) : ∃ u, us = [u] ∧ RelV x u := by
  cases r with
  | cons r1 r2 => cases r2; exact ⟨_, rfl, r1⟩
theorem vals2 {x y : V} {us : List Value} (r : Vals [x, y] us) : ∃ u w', us = [u, w'] ∧ RelV x u ∧ RelV y w' := by
  cases r with
  | cons r1 r2 =>
    cases r2 with
    | cons r3 r4 => cases r4; exact ⟨_, _, rfl, r1, r3⟩
theorem call_str_int : CallR X (.type "str") (fun xs H Q => ∃ i, xs = [.int i] ∧ i.natAbs.log2 < 1920 ∧ Q (.str (toString i)) H) := by
  intro pins s σ H xs us Q I r h
  obtain ⟨i, rfl, hz, q⟩ := h
  obtain ⟨u, rfl, t, rfl⟩ := vals1 r
  exact PySem.P.str_of_int hz ⟨.str _, H, I.tok _, ⟨_, rfl⟩, q⟩
end
end L2
namespace L2
open PySem PySem.Spec PyProof.Rows
structure ObjM (h : Heap) (x dx C : Addr) (mA : Str → Option Value) : Prop where
  obj : h.get? x = some (PySem.W.instObj C dx)
  ns : h.Ns1 dx mA
  ne : dx ≠ x
theorem lookIn_ns {h : Heap} {dx : Addr} {mA : Str → Option Value} (n : h.Ns1 dx mA) : ∃ od, h.get? dx = some od ∧ ∀ name, PySem.W.lookIn name od = some (mA name) := by
  obtain ⟨o, es, ep, ho, hd, hk, _, hm⟩ := n
  refine ⟨o, ho, fun name => ?_⟩
  have e := hm name
  unfold nsFind findBy at e
  rw [← Array.find?_toList] at e
  unfold PySem.W.lookIn
  rw [hd]
  dsimp only
  split
  · rename_i y q
    rw [q] at e
    exact congrArg some e
  · rename_i q
    rw [q] at e
    have a : es.toList.any (·.refKey) = false := by
      rw [List.any_eq_false]
      intro y hy
      obtain ⟨z, t, hkey⟩ := hk y (Array.mem_toList_iff.mp hy)
      simp [DictEntry.refKey, hkey]
    have a' : ¬ es.toList.any (·.refKey) = true := by rw [a]; exact Bool.false_ne_true
    rw [if_neg a']
    exact congrArg some e
theorem ObjM.look {h : Heap} {x dx C : Addr} {mA : Str → Option Value} (I : ObjM h x dx C mA) : ∃ od, PySem.W.InstAt h x (PySem.W.instObj C dx) C (some od) ∧ ∀ name, PySem.W.lookIn name od = some (mA name) :=
  let ⟨od, ho, hl⟩ := lookIn_ns I.ns
  ⟨od, ⟨I.obj, rfl, rfl, ho⟩, hl⟩
section
variable {prog : Program} {w : World} {A : Around} {E : Value → Shared → Prop} {s : Shared} {K : PySem.W.Frag} {x dx C f : Addr} {mA : Str → Option Value} {name : Str} {v : Value}
end
section
variable {P : Program} {w : World} {H H' : Hp} {h h' : Heap} {a C dx : Addr} {fs fs' : List (Str × V)}
theorem ins_get (hok : HOk P w H h) (e : H a = some (.ins C dx fs)) : ∃ mA, ObjM h a dx C mA ∧ (∀ f, RelO (fs.lookup f) (mA f)) ∧ PySem.Within mA (fs.map (·.1)) ∧ fs.length ≤ 1000 ∧ H dx = some (.own a) := by
  obtain ⟨d, z, ne, ob, mA, n, r, q⟩ := (show ObjOk P w H h a (.ins C dx fs) from hok a _ e)
  exact ⟨mA, ⟨ob, n, ne⟩, r, q, z, d⟩
end
structure Cls (K : PySem.W.Frag) (C : Addr) : Prop where
  pg : PySem.W.plainGet K C Str.empty = true
  hd : PySem.W.hasDictIn K C = true
  po : PySem.W.plainOver K C = true
  sa : PySem.W.findIn K (.ref C) "__setattr__" = some (some (.builtin "object.__setattr__"))
theorem Cls.get {K : PySem.W.Frag} {C : Addr} (c : Cls K C) (f : Str) : PySem.W.plainGet K C f = true := c.pg
section
variable {X : Cx} {pins : List (Addr × Obj)} {σ : St} {H : Hp} {s : Shared} {a C dx : Addr} {fs : List (Str × V)} {f : Str} {v : V} {A : Around} {E : Value → Shared → Prop}
end
section
variable {X : Cx} {o e value : Expr} {f : Str} {pos pos' tpos : Pos} {ta tv : TE}
end
section
variable {X : Cx} {pins : List (Addr × Obj)} {σ : St} {H : Hp} {s : Shared} {A : Around} {E : Value → Shared → Prop} {Q : Value → Shared → Prop} {c : Value} {b : Bool}
inductive TyOf (K : PySem.W.Frag) (H : Hp) : V → Value → Prop where
  | non : TyOf K H .non (.type "NoneType")
  | bl (x : Bool) : TyOf K H (.bl x) (.type "bool")
  | int (i : Int) : TyOf K H (.int i) (.type "int")
  | str (x : Str) : TyOf K H (.str x) (.type "str")
  | flt (x : UInt64) : TyOf K H (.flt x) (.type "float")
  | lst {a : Addr} {xs : List V} (e : H a = some (.lst xs)) : TyOf K H (.ref a) (.type "list")
  | frz {a : Addr} {o : Obj} {xs : List V} (e : H a = some (.frz o (.lst xs))) : TyOf K H (.ref a) (.type "list")
  | tup {a : Addr} {xs : List V} (e : H a = some (.tup xs)) : TyOf K H (.ref a) (.type "tuple")
  | dK {a : Addr} {kvs : List (Key × V)} (e : H a = some (.dK kvs)) : TyOf K H (.ref a) (.type "dict")
  | dT {a : Addr} {kvs : List (List Key × V)} (e : H a = some (.dT kvs)) : TyOf K H (.ref a) (.type "dict")
  | ins {a C dx : Addr} {fs : List (Str × V)} (e : H a = some (.ins C dx fs)) (cl : Cls K C) (ha : PySem.W.findIn K (.ref C) "__class__" = some (some (.builtin "object.__class__")))
      (hn : PySem.W.specialIn K (.builtin "object.__class__") "__get__" = some (some (.builtin "getset_descriptor.__get__"))) (htk : PySem.W.takesIn K (.builtin "object.__class__") = some true)
      (hm : PySem.W.mroIn K C (.type "object") = some true) : TyOf K H (.ref a) (.ref C)
theorem isinst_ok {x : V} {u t : Value} (I : Inv X pins σ H s) (rx : RelV x u) (ty : TyOf X.K H x t) (e : PySem.W.kitOne X.K t c = some b) (h : ∀ tk, Q (.bool b) { s with toks := tk }) :
    wpAny (model X.prog X.w) A (call (.builtin "isinstance") [u, c]) Q E s := by
  cases ty with
  | non => cases (show u = Value.none from rx); exact PySem.W.kia_one PySem.W.kitx_none I.kIn True.intro e (fun z => nomatch z) h
  | bl y => cases (show u = Value.bool y from rx); exact PySem.W.kia_one PySem.W.kitx_bool I.kIn True.intro e (fun z => nomatch z) h
  | int i => obtain ⟨t, q⟩ := (show ∃ t, u = Value.int i t from rx); cases q; exact PySem.W.kia_one PySem.W.kitx_int I.kIn True.intro e (fun z => nomatch z) h
  | str y => obtain ⟨t, q⟩ := (show ∃ t, u = Value.str y t from rx); cases q; exact PySem.W.kia_one PySem.W.kitx_str I.kIn True.intro e (fun z => nomatch z) h
  | flt y => obtain ⟨t, q⟩ := (show ∃ t, u = Value.float y t from rx); cases q; exact PySem.W.kia_one PySem.W.kitx_float I.kIn True.intro e (fun z => nomatch z) h
  | @lst a xs ea =>
    cases (show u = Value.ref a from rx)
    obtain ⟨_, _, n, _, h1⟩ := (show ObjOk X.prog X.w H s.heap a (.lst xs) from I.hok a _ ea)
    exact PySem.W.kia_one PySem.W.kitx_list I.kIn ⟨_, h1, rfl⟩ e (fun z => nomatch z) h
  | @frz a ob xs ea =>
    cases (show u = Value.ref a from rx)
    obtain ⟨_, _, _, n, _, h1⟩ := (show ObjOk X.prog X.w H s.heap a (.frz ob (.lst xs)) from I.hok a _ ea)
    exact PySem.W.kia_one PySem.W.kitx_list I.kIn ⟨_, h1, rfl⟩ e (fun z => nomatch z) h
  | @tup a xs ea =>
    cases (show u = Value.ref a from rx)
    obtain ⟨_, _, _, p⟩ := (show ObjOk X.prog X.w H s.heap a (.tup xs) from I.hok a _ ea)
    obtain ⟨o, h1, h2, _⟩ := p
    exact PySem.W.kia_one PySem.W.kitx_tuple I.kIn ⟨o, h1, h2⟩ e (fun z => nomatch z) h
  | @dK a kvs ea =>
    cases (show u = Value.ref a from rx)
    obtain ⟨_, _, vs, _, p⟩ := (show ObjOk X.prog X.w H s.heap a (.dK kvs) from I.hok a _ ea)
    obtain ⟨o, es, ep, h1, h2, _⟩ := p
    exact PySem.W.kia_one PySem.W.kitx_dict I.kIn ⟨o, h1, h2.1⟩ e (fun z => nomatch z) h
  | @dT a kvs ea =>
    cases (show u = Value.ref a from rx)
    obtain ⟨_, _, xs, _, o, es, ep, h1, h2, _⟩ := (show ObjOk X.prog X.w H s.heap a (.dT kvs) from I.hok a _ ea)
    exact PySem.W.kia_one PySem.W.kitx_dict I.kIn ⟨o, h1, h2.1⟩ e (fun z => nomatch z) h
  | @ins a C dx fs ea cl ha hn htk hm =>
    cases (show u = Value.ref a from rx)
    obtain ⟨mA, O, _⟩ := ins_get I.hok ea
    obtain ⟨od, J, _⟩ := O.look
    exact PySem.W.kia_one (PySem.W.kitx_own (cl.get _) cl.hd ha hn htk hm) I.kIn J e (fun z => nomatch z) h
end
end L2
namespace L2
open PySem PySem.Spec PyProof.Rows
structure Room (k : Nat) (A : Around) : Prop where
  hd : A.handled = none
  dp : A.depth + 3 * k + 5 < recursionLimit
  un : A.units + 16 * k + 200 < cLine
theorem Room.mono {j k : Nat} {A : Around} (r : Room k A) (h : j ≤ k) : Room j A := ⟨r.hd, by have := r.dp; omega, by have := r.un; omega⟩
theorem Room.deeper {k : Nat} {A : Around} (r : Room (k + 1) A) (env : Env) : Room k (A.deeper env) :=
  ⟨r.hd, by have := r.dp; show A.depth + 1 + 3 * k + 5 < _; omega, by have := r.un; show A.units + 3 + 16 * k + 200 < _; omega⟩
theorem make_depth {A : Around} {C : Addr} {us : List Value} {kw : List (Str × Value)} : (A.under (.builtin "type.__call__" ⟨.ref C :: us, kw⟩)).depth = A.depth + 1 := by
  first | rfl | simp [Around.under, Code.weight, Code.isCreation, Code.isGuard, Code.isCaller, Code.frames, Code.isFrame, guardIds]
theorem make_units {A : Around} {C : Addr} {us : List Value} {kw : List (Str × Value)} : (A.under (.builtin "type.__call__" ⟨.ref C :: us, kw⟩)).units = A.units + 1 := by
  first | rfl | simp [Around.under, Code.cUnits, Code.frames, Code.isFrame]
theorem Room.make {k : Nat} {A : Around} (r : Room (k + 1) A) (C : Addr) (us : List Value) (kw : List (Str × Value)) : Room k (A.under (.builtin "type.__call__" ⟨.ref C :: us, kw⟩)) :=
  ⟨r.hd, by have := r.dp; rw [make_depth]; omega, by have := r.un; rw [make_units]; omega⟩
theorem Room.depth {k : Nat} {A : Around} (r : Room k A) : A.depth < recursionLimit := by have := r.dp; omega
theorem Room.units {k : Nat} {A : Around} (r : Room k A) : A.units + 64 < cLine := by have := r.un; omega
def tNil : TA := fun _ H Q => Q [] H
def tCons (ta : TE) (tr : TA) : TA := fun σ H Q => ta σ H fun x H1 => tr σ H1 fun xs H2 => Q (x :: xs) H2
section
variable {X : Cx} {e : Expr} {es : List Expr} {te : TE} {t : TA} {pos : Pos}
theorem pa_nil : PA X [] tNil := fun _ _ _ _ H Q I h => Calls.spliced_nil ⟨[], H, I, .nil, h⟩
theorem pa_cons (ha : PE X e te) (hr : PA X es t) (hs : starEach (e :: es) X.env = (false, eval e X.env) :: starEach es X.env := by rfl) : PA X (e :: es) (tCons te t) := by
  intro pos pins s σ H Q I h
  rw [hs]
  show wpAny _ _ (spliced ((false, eval e X.env) :: backTo pos (starEach es X.env))) _ _ s
  refine Calls.spliced_cons (thn (ha pins s σ H _ I h) fun u s1 ⟨x, H1, I1, r1, q1⟩ => ?_)
  exact thn (hr pos pins s1 σ H1 _ I1 q1) fun us s2 ⟨xs, H2, I2, r2, q2⟩ => ⟨x :: xs, H2, I2, .cons r1 r2, q2⟩
def tTup (t : TA) : TE := fun σ H Q => t σ H fun xs H1 => xs.length ≤ sizeLine ∧ ∀ p, H1 p = none → Q (.ref p) (upd H1 p (.tup xs))
def tLst (t : TA) : TE := fun σ H Q => t σ H fun xs H1 => xs.length ≤ sizeLine ∧ ∀ p, H1 p = none → Q (.ref p) (upd H1 p (.lst xs))
theorem pe_tup {x1} (h : PA X es t) : PE X (.Tuple es x1 pos) (tTup t) := by
  intro pins s σ H Q I hq
  refine wpAny_Tuple_spliced (thn (h pos pins s σ H _ I hq) fun us s1 ⟨xs, H1, I1, r, z, q⟩ => ⟨by rw [← r.length]; exact z, ?_⟩)
  have hf : H1 s1.heap.objs.size = none := I1.hok.fresh (Nat.le_refl _)
  refine ⟨.ref s1.heap.objs.size, upd H1 s1.heap.objs.size (.tup xs), I1.laid (t' := s1.toks) (fun b u e => Heap.get?_push_of_some _ e) (Nat.le_refl _) ?_, rfl, q _ hf⟩
  exact ⟨z, us, r, ⟨_, Heap.get?_push_size _ rfl, rfl, _, rfl⟩⟩
theorem pe_lst (h : PA X es t) : PE X (.List es pos) (tLst t) := by
  intro pins s σ H Q I hq
  refine wpAny_List_spliced (thn (h pos pins s σ H _ I hq) fun us s1 ⟨xs, H1, I1, r, z, q⟩ => ⟨by rw [← r.length]; exact z, ?_⟩)
  have hf : H1 s1.heap.objs.size = none := I1.hok.fresh (Nat.le_refl _)
  refine ⟨.ref s1.heap.objs.size, upd H1 s1.heap.objs.size (.lst xs), I1.laid (t' := s1.toks) (fun b u e => Heap.get?_push_of_some _ e) (Nat.le_refl _) ?_, rfl, q _ hf⟩
  exact ⟨z, us, 0, r, Heap.get?_push_size _ rfl⟩
end
abbrev Sp := List V → Hp → VK → XK → Prop
abbrev CXT := List Env → Hp → Shared → XK → Value → Shared → Prop
structure Env0 (P : Program) (w : World) (K : PySem.W.Frag) (mg : Str → Option Value) (base : Heap) (A : Around) (outer : List Env) (s : Shared) (H : Hp) : Prop where
  frames : A.frames = some outer
  mod : Mod K mg base
  bs : ∀ b o, base.get? b = some o → s.heap.get? b = some o ∧ H b = none
  bsz : base.objs.size ≤ s.heap.objs.size
  funs : s.heap.FunFrames base outer
  frf : ∀ b ∈ frs outer, H b = none
  hok : HOk P w H s.heap
  bare : AllBare s.gens
def CE (outer : List Env) (P : Program) (w : World) (H : Hp) (s : Shared) (Q : VK) (u : Value) (s' : Shared) : Prop :=
  ∃ v H', s'.os = s.os ∧ AllBare s'.gens ∧ Un (frs outer) [] H H' s.heap s'.heap ∧ HOk P w H' s'.heap ∧ RelV v u ∧ Q v H'
def CR (CX : CXT) (outer : List Env) (P : Program) (w : World) (H : Hp) (s : Shared) (Q : VK) (E : XK) (r : Result) (s' : Shared) : Prop :=
  match r with
  | .ok (.ret u) => CE outer P w H s Q u s'
  | .ok _ => False
  | .error e => CX outer H s E e s'
structure FnOk (P : Program) (w : World) (K : PySem.W.Frag) (mg : Str → Option Value) (base : Heap) (CX : CXT) (k : Nat) (f : Addr) (fd : FuncData) (ps : List Str) (sp : Sp) : Prop where
  len : ∀ vs H Q E, sp vs H Q E → vs.length = ps.length
  run : ∀ (A : Around) (outer : List Env) (s : Shared) (H : Hp) (args : Args) (us : List Value) (vs : List V) (Q : VK) (E : XK), Room k A → Env0 P w K mg base A outer s H → BindsTo s fd args (ps.zip us) → Vals vs us → sp vs H Q E →
    codeAny (model P w) A (.call (.ref f) args) (CR CX outer P w H s Q E) s
theorem Env0.make {P : Program} {w : World} {K : PySem.W.Frag} {mg : Str → Option Value} {base : Heap} {A : Around} {outer : List Env} {s : Shared} {H : Hp} (e : Env0 P w K mg base A outer s H) (C : Addr) (us : List Value) (kw : List (Str × Value)) :
    Env0 P w K mg base (A.under (.builtin "type.__call__" ⟨.ref C :: us, kw⟩)) outer s H := ⟨by first | exact e.frames | (simpa [Around.under, Code.envs, Code.isFrame, pushEnvs] using e.frames), e.mod, e.bs, e.bsz, e.funs, e.frf, e.hok, e.bare⟩
section
variable {X : Cx} {pins : List (Addr × Obj)} {σ : St} {H : Hp} {s s' : Shared}
theorem Inv.env0 (I : Inv X pins σ H s) : Env0 X.prog X.w X.K X.mg X.base X.A X.stack s H :=
  ⟨I.ok.frames, I.ok.mod, I.bs, Nat.le_trans I.ok.bsz I.sz, I.stack, I.stkFree, I.hok, I.bare⟩
theorem Inv.after {Q : VK} {u : Value} (I : Inv X pins σ H s) (h : CE X.stack X.prog X.w H s Q u s') : EP X pins σ Q u s' := by
  obtain ⟨v, H', os, bare, un, hok, r, q⟩ := h
  obtain ⟨hh, g, d, t, os'⟩ := s'
  obtain rfl : os' = s.os := os
  exact ⟨v, H', I.call (h' := hh) (g' := g) (d' := d) (t' := t) (ch := []) un hok bare (fun b z => absurd z (by simp)), r, q⟩
end
def tCall (sp : Sp) (dvs : List V) (E : XK) (t : TA) : TE := fun σ H Q => t σ H fun vs H1 => sp (vs ++ dvs) H1 Q E
def Binds (K : PySem.W.Frag) (fd : FuncData) (ps : List Str) (ds : List Value) : Prop :=
  ∀ (s : Shared) (us : List Value), K.In s.heap → (us ++ ds).length = ps.length → BindsTo s fd ⟨us, []⟩ (ps.zip (us ++ ds))
theorem Binds.all {K : PySem.W.Frag} {fd : FuncData} {ps : List Str} (h : ∀ us : List Value, us.length = ps.length → bindArgs fd ⟨us, []⟩ = pure (ps.zip us)) : Binds K fd ps [] := fun s us _ hl => by
  rw [List.append_nil] at hl ⊢
  exact .of_eq (h us hl)
def Passes (CX : CXT) (X : Cx) (E : XK) : Prop := ∀ (pins : List (Addr × Obj)) (σ : St) (H : Hp) (s : Shared) (e : Value) (s' : Shared), Inv X pins σ H s → CX X.stack H s E e s' → X.xe e s'
section
variable {X : Cx} {CX : CXT} {k : Nat} {f C : Addr} {fd : FuncData} {ps : List Str} {sp : Sp} {dvs : List V} {ds : List Value} {E : XK} {x m : Str} {p pos apos : Pos} {e o : Expr} {es : List Expr} {ta : TE} {t : TA}
theorem run_fn {pins : List (Addr × Obj)} {σ : St} {H : Hp} {s : Shared} {Q : VK} {us : List Value} {vs : List V} (F : FnOk X.prog X.w X.K X.mg X.base CX k f fd ps sp) (hr : Room k X.A) (hb : Binds X.K fd ps ds) (hd : Vals dvs ds) (hx : Passes CX X E)
    (I : Inv X pins σ H s) (r : Vals vs us) (h : sp (vs ++ dvs) H Q E) : wpAny (model X.prog X.w) X.A (call (.ref f) us) (EP X pins σ Q) X.xe s := by
  have r2 : Vals (vs ++ dvs) (us ++ ds) := r.append hd
  have hl : (us ++ ds).length = ps.length := by rw [← r2.length]; exact F.len _ _ _ _ h
  refine wpAny_call (codeAny_mono (F.run X.A X.stack s H ⟨us, []⟩ (us ++ ds) (vs ++ dvs) Q E hr I.env0 (hb s us I.kIn hl) r2 h) fun r s' hq => ?_)
  cases r with
  | error e => exact hx pins σ H s e s' I hq
  | ok fl =>
    cases fl with
    | ret u => exact I.after hq
    | next => exact False.elim hq
    | brk => exact False.elim hq
    | cont => exact False.elim hq
theorem pe_call (F : FnOk X.prog X.w X.K X.mg X.base CX k f fd ps sp) (hr : Room k X.A) (hg : Gl X x) (hm : X.mg x = some (.ref f)) (hk : PySem.W.keepIn X.K (.ref f) = true) (hb : Binds X.K fd ps ds) (hd : Vals dvs ds) (hx : Passes CX X E)
    (ha : PA X (e :: es) t) (hdb : (x == ("__debug__" : Str)) = false := by decide) (he : starEach (e :: es) X.env = (false, eval e X.env) :: starEach es X.env := by rfl) (hpl : (backTo pos (starEach es X.env)).any (·.1) = false := by rfl) :
    PE X (.Call (.Name x p) (e :: es) [] pos) (tCall sp dvs E t) := by
  intro pins s σ H Q I h
  refine wpAny_Call_Name_kw (ld_glob I hg hm ?_ hdb)
  refine PySem.W.callWith_K (h₀ := X.base) I.ok.mod.kin hk (thn (ha pos pins s σ H _ I h) fun us s1 ⟨vs, H1, I1, r, q⟩ => ⟨I1.kIn, ?_⟩) he hpl
  exact run_fn F hr hb hd hx I1 r q
end
section
variable {X : Cx} {CX : CXT} {k : Nat} {f C : Addr} {fd : FuncData} {ps ks : List Str} {sp : Sp} {E : XK} {x m : Str} {p pos apos kpos : Pos} {e o : Expr} {es : List Expr} {kws : List Keyword} {te ta : TE} {t tk : TA} {nm : Option Str}
variable {g : List Value → List Value → List Value} {gV : List V → List V → List V}
end
structure FnScope (N P : List Str) (sc : Scope) : Prop where
  kind : sc.kind = .function
  co : sc.isCoroutine = false
  gen : sc.isGenerator = false
  nd : N.Nodup
  pre : N.take P.length = P
  par : ∀ x ∈ P, sc.names.lookup x = some .local ∨ sc.names.lookup x = some .cell
  nofree : ∀ y ∈ sc.names, y.2 ≠ .free
theorem bindL_out {kindOf : Str → Option NameKind} {x : Str} : ∀ {binds : List (Str × Value)} {m : Str → Option Value}, (∀ v, (x, v) ∉ binds) → bindL kindOf binds m x = m x
  | [], _, _ => rfl
  | (n, v) :: r, m, h => by
    unfold bindL
    rw [bindL_out fun w hw => h w (List.mem_cons_of_mem _ hw)]
    split
    · have : x ≠ n := by rintro rfl; exact h v List.mem_cons_self
      simp [this]
    · rfl
theorem bindC_out {kindOf : Str → Option NameKind} {x : Str} : ∀ {binds : List (Str × Value)} {m : Str → Option Value}, (∀ v, (x, v) ∉ binds) → bindC kindOf binds m x = m x
  | [], _, _ => rfl
  | (n, v) :: r, m, h => by
    unfold bindC
    rw [bindC_out fun w hw => h w (List.mem_cons_of_mem _ hw)]
    split
    · rfl
    · have : x ≠ n := by rintro rfl; exact h v List.mem_cons_self
      simp [this]
theorem bindL_get {kindOf : Str → Option NameKind} {x : Str} {v : Value} : ∀ {P : List Str} {vs : List Value} {i : Nat} {m : Str → Option Value}, P.Nodup → P[i]? = some x → vs[i]? = some v → kindOf x = some .local →
    bindL kindOf (P.zip vs) m x = some v
  | [], _, _, _, _, h, _, _ => by simp at h
  | _ :: _, [], _, _, _, _, h, _ => by simp at h
  | p :: P, w :: vs, 0, m, nd, h1, h2, hk => by
    simp at h1 h2; subst h1; subst h2
    show bindL kindOf ((p, w) :: P.zip vs) m p = _
    unfold bindL
    rw [bindL_out fun v hv => (List.nodup_cons.mp nd).1 (List.of_mem_zip hv).1, if_pos hk]
    simp
  | p :: P, w :: vs, i + 1, m, nd, h1, h2, hk => by
    show bindL kindOf ((p, w) :: P.zip vs) m x = _
    unfold bindL
    exact bindL_get (i := i) (List.nodup_cons.mp nd).2 (by simpa using h1) (by simpa using h2) hk
theorem bindC_get {kindOf : Str → Option NameKind} {x : Str} {v : Value} : ∀ {P : List Str} {vs : List Value} {i : Nat} {m : Str → Option Value}, P.Nodup → P[i]? = some x → vs[i]? = some v → kindOf x ≠ some .local →
    bindC kindOf (P.zip vs) m x = some v
  | [], _, _, _, _, h, _, _ => by simp at h
  | _ :: _, [], _, _, _, _, h, _ => by simp at h
  | p :: P, w :: vs, 0, m, nd, h1, h2, hk => by
    simp at h1 h2; subst h1; subst h2
    show bindC kindOf ((p, w) :: P.zip vs) m p = _
    unfold bindC
    rw [bindC_out fun v hv => (List.nodup_cons.mp nd).1 (List.of_mem_zip hv).1, if_neg hk]
    simp
  | p :: P, w :: vs, i + 1, m, nd, h1, h2, hk => by
    show bindC kindOf ((p, w) :: P.zip vs) m x = _
    unfold bindC
    exact bindC_get (i := i) (List.nodup_cons.mp nd).2 (by simpa using h1) (by simpa using h2) hk
def start (N : List Str) (vs : List V) : St := vs.map some ++ List.replicate (N.length - vs.length) none
def cxOf (CX : CXT) (P : Program) (w : World) (K : PySem.W.Frag) (mg : Str → Option Value) (base : Heap) (N : List Str) (qual : Str) (scope : Scope) (f : Addr) (cd : Value) (A : Around) (outer : List Env) (s : Shared) (H : Hp) (E : XK) : Cx where
  prog := P
  w := w
  K := K
  mg := mg
  base := base
  A := A.deeper (envOfC qual scope s.heap.objs.size f cd)
  N := N
  s₀ := s
  H₀ := H
  env := envOfC qual scope s.heap.objs.size f cd
  outer := outer
  stack := envOfC qual scope s.heap.objs.size f cd :: outer
  ex := []
  calm := true
  fn := fun _ => true
  pn := []
  xe := fun e s' => wpAny (model P w) (A.deeper (envOfC qual scope s.heap.objs.size f cd)) (leaving (envOfC qual scope s.heap.objs.size f cd) e) (fun _ s'' => CX outer H s E e s'') (fun e' s'' => CX outer H s E e' s'') s'
theorem cell_has {sc : Scope} {n : Nat} {x : Str} (h : sc.names.lookup x = some .cell) : ∃ c, (cellsFrom n sc.names []).lookup x = some c := by
  have q := PySem.W.cellsFrom_some sc.names n [] (.inl h)
  exact Option.isSome_iff_exists.mp q
theorem inv_start {CX : CXT} {P : Program} {w : World} {K : PySem.W.Frag} {mg : Str → Option Value} {base : Heap} {N ps : List Str} {qual : Str} {scope : Scope} {f : Addr} {cd : Value} {A : Around} {outer : List Env} {s s1 : Shared} {H : Hp} {E : XK} {us : List Value} {vs : List V}
    (S : FnScope N ps scope) (hd : A.handled = none) (e0 : Env0 P w K mg base A outer s H) (hl : vs.length = ps.length) (r : Vals vs us)
    (x : InCallC s s.heap.objs.size (bindL (envOfC qual scope s.heap.objs.size f cd).kindOf (ps.zip us) fun _ => none) (cellsFrom (s.heap.objs.size + 1) scope.names []) (bindC (envOfC qual scope s.heap.objs.size f cd).kindOf (ps.zip us) fun _ => none) s1) :
    Inv (cxOf CX P w K mg base N qual scope f cd A outer s H E) [] (start N vs) H s1 := by
  have hpl : ps.length ≤ N.length := by have := congrArg List.length S.pre; rw [List.length_take] at this; omega
  obtain ⟨h1, tk, rfl, hk⟩ := x.done
  have noA : ∀ b : Addr, b ∉ (cxOf CX P w K mg base N qual scope f cd A outer s H E).ex := fun b z => absurd (show b ∈ ([] : List Addr) from z) (by simp)
  refine ⟨⟨e0.mod, S.kind, rfl, rfl, Nat.le_refl _, fun y z c h1 h2 => ?_, fun y hy => ?_, fun y c _ h => ?_, fun _ => hd, Around.frames_deeper e0.frames, .inr ⟨rfl, rfl⟩, fun b z => absurd z (noA b), e0.bs, e0.bsz, fun b _ _ => noA b, fun b z => absurd z (noA b), e0.funs, e0.frf⟩,
    rfl, e0.bare, Un.kept hk, ⟨_, x.toInCall.ns, fun i y v h1 h2 h3 => ?_⟩, fun y c h => ⟨_, x.cell y c h⟩, e0.hok.fresh (Nat.le_refl _), fun y c h => ?_, fun p hp => absurd (show p ∈ ([] : List (Addr × Obj)) from hp) (by simp), e0.hok.kept hk, ?_⟩
  · exact name_of_addr x.apart (PySem.mem_of_lookup h1) (PySem.mem_of_lookup h2)
  · have hy : scope.names.lookup y = some .cell ∨ scope.names.lookup y = some .free := hy
    rcases hy with hy | hy
    · exact cell_has hy
    · exact absurd rfl (S.nofree _ (PySem.mem_of_lookup hy))
  · exact Nat.le_of_lt (x.above y c (PySem.mem_of_lookup h))
  · have hi : i < vs.length := by
      unfold start at h2
      by_cases hi : i < vs.length
      · exact hi
      · rw [List.getElem?_append_right (by simpa using hi)] at h2
        rw [List.getElem?_replicate] at h2
        split at h2 <;> cases h2
    have ha : vs[i]? = some v := by
      unfold start at h2
      rw [List.getElem?_append_left (by simpa using hi), List.getElem?_map] at h2
      cases e : vs[i]? with
      | none => rw [e] at h2; cases h2
      | some a => rw [e] at h2; cases h2; rfl
    obtain ⟨u, hu, rv⟩ := r.get ha
    have hp : ps[i]? = some y := by
      rw [← S.pre, List.getElem?_take_of_lt (by omega)]; exact h1
    have ndP : ps.Nodup := by rw [← S.pre]; exact S.nd.sublist (List.take_sublist _ _)
    refine ⟨u, rv, ?_⟩
    rcases S.par y (List.mem_of_getElem? hp) with k | k
    · exact .inl ⟨k, bindL_get ndP hp hu k⟩
    · obtain ⟨c, e⟩ := cell_has (n := s.heap.objs.size + 1) k
      refine .inr ⟨.inl k, c, e, ?_⟩
      have q := x.cell y c e
      rw [bindC_get ndP hp hu (by show scope.names.lookup y ≠ _; rw [k]; decide)] at q
      exact q
  · exact e0.hok.fresh (Nat.le_of_lt (x.above y c (PySem.mem_of_lookup h)))
  · unfold start
    show _ = N.length
    rw [List.length_append, List.length_map, List.length_replicate]
    omega
theorem fn_of {CX : CXT} {P : Program} {w : World} {K : PySem.W.Frag} {mg : Str → Option Value} {base : Heap} {k : Nat} {f : Addr} {name qual : Str} {params : Arguments} {body : List Stmt} {scope : Scope} {dV kV doc pm cdv ct oc : Value} {an od : Option Addr}
    {osl : Array (Option Value)} {N ps : List Str} {sp : Sp} (lk : K.lookup f = some ⟨oc, od, .func (PySem.W.fnOf name qual params body scope dV kV doc pm an cdv ct), osl⟩) (hcd : PySem.W.codeIn K cdv qual = true) (S : FnScope N ps scope)
    (len : ∀ vs H Q E, sp vs H Q E → vs.length = ps.length)
    (hbody : ∀ (A : Around) (outer : List Env) (s : Shared) (H : Hp) (vs : List V) (Q : VK) (E : XK), Room k (A.deeper (envOfC qual scope s.heap.objs.size f cdv)) → sp vs H Q E →
      ∃ t, PSs (cxOf CX P w K mg base N qual scope f cdv A outer s H E) body t ∧ t { nx := fun _ H' => Q .non H', rt := Q } (start N vs) H) :
    FnOk P w K mg base CX (k + 1) f (PySem.W.fnOf name qual params body scope dV kV doc pm an cdv ct) ps sp := by
  refine ⟨len, fun A outer s H args us vs Q E hr e0 hb r hsp => ?_⟩
  have hl := len _ _ _ _ hsp
  have KX : K.In s.heap := e0.mod.kin.keeps fun b o e => (e0.bs b o e).1
  have lim : s.heap.NoLimit := e0.mod.nolimit.keeps fun b o e => (e0.bs b o e).1
  have hkind : ∀ y ∈ ps.zip us, scope.names.lookup y.1 = some .local ∨ (scope.names.lookup y.1 = some .cell ∧ ((cellsFrom (s.heap.objs.size + 1) scope.names []).lookup y.1).isSome = true) := fun ⟨n, v⟩ hy => by
    rcases S.par n (List.of_mem_zip hy).1 with q | q
    · exact .inl q
    · exact .inr ⟨q, PySem.W.cellsFrom_some _ _ _ (.inl q)⟩
  refine codeAny_call_function hr.depth (KX _ _ lk) rfl S.co S.gen rfl (PySem.W.codeRec_of KX hcd) (hb _ _ _ _ ?_)
  refine wpAny_newFunctionEnv_cells S.kind hkind fun env he s1 x => ?_
  subst he
  refine ⟨lim.keeps x.toInCall.keep, codeAny_func ?_⟩
  obtain ⟨t, ht, hq⟩ := hbody A outer s H vs Q E (hr.deeper _) hsp
  have I : Inv (cxOf CX P w K mg base N qual scope f cdv A outer s H E) [] (start N vs) H s1 := inv_start S hr.hd e0 hl r x
  refine wpAny_mono (ht [] s1 (start N vs) H _ I hq) (fun fl s' hs => ?_) fun e s' hs => hs
  have fin : ∀ {σ' : St} {H' : Hp} {v : V} {u : Value}, Inv (cxOf CX P w K mg base N qual scope f cdv A outer s H E) [] σ' H' s' → RelV v u → Q v H' → CE outer P w H s Q u s' :=
    fun {σ' H' v u} J rv q => ⟨v, H', J.os, J.bare, J.base, J.hok, rv, q⟩
  cases fl with
  | ret u =>
    obtain ⟨v, σ', H', J, rv, q⟩ := hs
    exact fin J rv q
  | next =>
    obtain ⟨σ', H', J, q⟩ := hs
    exact fin (v := V.non) (u := Value.none) J rfl q
  | brk =>
    obtain ⟨_, _, _, q⟩ := hs
    exact False.elim q
  | cont =>
    obtain ⟨_, _, _, q⟩ := hs
    exact False.elim q
end L2
namespace L2
open PySem PySem.Spec PyProof.Rows
section
variable {X : Cx} {x : Str} {p pos : Pos} {e : Expr} {es : List Expr} {t : TA} {id T : String} {r : List V → Hp → VK → Prop}
def tCB (r : List V → Hp → VK → Prop) (t : TA) : TE := fun σ H Q => t σ H fun vs H1 => r vs H1 Q
theorem pe_callB (hc : CallR X (.builtin id) r) (hg : Gl X x) (hm : X.mg x = none) (hv : bootBuiltins x = some (.builtin id)) (ha : PA X (e :: es) t) (hn : x ≠ "__name__" := by decide) (hdb : (x == ("__debug__" : Str)) = false := by decide)
    (he : starEach (e :: es) X.env = (false, eval e X.env) :: starEach es X.env := by rfl) (hpl : (backTo pos (starEach es X.env)).any (·.1) = false := by rfl) : PE X (.Call (.Name x p) (e :: es) [] pos) (tCB r t) := by
  intro pins s σ H Q I h
  refine wpAny_Call_Name_kw (ld_blt I hg hm hv ?_ hn hdb)
  exact PyProof.Rows.callWith_builtin1 (thn (ha pos pins s σ H _ I h) fun us s1 ⟨vs, H1, I1, r1, q1⟩ => hc pins s1 σ H1 vs us Q I1 r1 q1) he hpl
theorem pe_callTy (hc : CallR X (.type T) r) (hg : Gl X x) (hm : X.mg x = none) (hv : bootBuiltins x = some (.type T)) (ha : PA X (e :: es) t) (hn : x ≠ "__name__" := by decide) (hdb : (x == ("__debug__" : Str)) = false := by decide)
    (he : starEach (e :: es) X.env = (false, eval e X.env) :: starEach es X.env := by rfl) (hpl : (backTo pos (starEach es X.env)).any (·.1) = false := by rfl) : PE X (.Call (.Name x p) (e :: es) [] pos) (tCB r t) := by
  intro pins s σ H Q I h
  refine wpAny_Call_Name_kw (ld_blt I hg hm hv ?_ hn hdb)
  exact PyProof.Rows.callWith_type1 (thn (ha pos pins s σ H _ I h) fun us s1 ⟨vs, H1, I1, r1, q1⟩ => hc pins s1 σ H1 vs us Q I1 r1 q1) he hpl
end
end L2
namespace HT
open PySem PyProof.Rows
section
open PySem.SeqAt
open PySem.AutoSeq1 (wpAny_loadPart')
open PySem.MeetsSeq PySem.MeetsSeq2 PySem.MeetsSeq3
end
section
variable {prog : Program} {w : World} {A : Around} {E : Value → Shared → Prop} {s : Shared}
theorem cat_tup {t b : Addr} {vs ws : List Value} {Q : Value → Shared → Prop} (ht : IsTup s.heap t vs.toArray) (hb : IsTup s.heap b ws.toArray) (hv : vs ≠ [])
    (h1 : ws = [] → Q (.ref t) s) (h2 : ws ≠ [] → Q (.ref s.heap.objs.size) { s with heap := s.heap.push { cls := .type "tuple", data := .seq (vs ++ ws).toArray } })
    (hsz : vs.length + ws.length ≤ sizeLine) : wpAny (model prog w) A (binaryOp .Add (.ref t) (.ref b)) Q E s := by
  obtain ⟨⟨cls, dd, data, sl⟩, ho, hc, n, hd⟩ := id ht
  obtain ⟨⟨cls2, dd2, data2, sl2⟩, ho2, hc2, n2, hd2⟩ := id hb
  simp only at hc hd hc2 hd2
  subst hc hd hc2 hd2
  have e : vs.toArray ++ ws.toArray = (vs ++ ws).toArray := by simp
  by_cases hw : ws = []
  · exact concat_meets ⟨_, ho, rfl⟩ ⟨_, ho2, rfl⟩ noFill_tuple_add seq_tuple_add PySem.F.slot_tuple_add PySem.F.entry_tuple_add (PySem.F.args_tuple_add_2 _ _)
      (tuple_addW1 t b vs.toArray ws.toArray n n2 dd dd2 sl sl2 (by simpa using hv) (by simp [hw])) ⟨ho, ho2, h1 hw⟩
  · refine concat_meets ⟨_, ho, rfl⟩ ⟨_, ho2, rfl⟩ noFill_tuple_add seq_tuple_add PySem.F.slot_tuple_add PySem.F.entry_tuple_add (PySem.F.args_tuple_add_2 _ _)
      (tuple_addW2 t b vs.toArray ws.toArray n n2 dd dd2 sl sl2 (by simpa using hv) (by simpa using hw) (by rw [List.size_toArray, List.size_toArray]; exact hsz)) ⟨ho, ho2, ?_⟩
    rw [e]
    exact h2 hw
def sIx (n d : Nat) : Option Int → Nat
  | none => d
  | some v => if v < 0 then (v + (n : Int)).toNat else min v.toNat n
theorem sIx_none (n d : Nat) : sIx n d none = d := rfl
theorem sIx_nat (n d k : Nat) : sIx n d (some (k : Int)) = min k n := by
  show (if (k : Int) < 0 then ((k : Int) + (n : Int)).toNat else min (k : Int).toNat n) = min k n
  rw [if_neg (by omega), Int.toNat_natCast]
end
end HT
namespace L2
open PySem PySem.Spec PyProof.Rows
abbrev TO := St → Hp → (Option Int → Hp → Prop) → Prop
def PO (X : Cx) (e : Option Expr) (t : TO) : Prop :=
  ∀ (pins : List (Addr × Obj)) (s : Shared) (σ : St) (H : Hp) (Q : Option Int → Hp → Prop), Inv X pins σ H s → t σ H Q →
    wpAny (model X.prog X.w) X.A (evalPart e X.env) (fun u s' => ∃ o H', Inv X pins σ H' s' ∧ IsPart u o ∧ Q o H') X.xe s
def tNoPart : TO := fun _ H Q => Q none H
def tPart (t : TE) : TO := fun σ H Q => t σ H fun x H1 => ∃ i, x = .int i ∧ Q (some i) H1
section
variable {X : Cx} {e : Expr} {te : TE} {lo hi : Option Expr} {tl th : TO} {pos p2 : Pos}
theorem po_none : PO X none tNoPart := by
  intro pins s σ H Q I h
  rw [evalPart_none]
  exact wpAny_pure ⟨none, H, I, .none, h⟩
theorem po_some (h : PE X e te) : PO X (some e) (tPart te) := by
  intro pins s σ H Q I hw
  rw [evalPart_some]
  refine thn (h pins s σ H _ I hw) fun u s1 ⟨x, H1, I1, r1, q1⟩ => ?_
  obtain ⟨i, rfl, q⟩ := q1
  obtain ⟨t, rfl⟩ := r1
  exact ⟨some i, H1, I1, .int i t, q⟩
def SlR (X : Cx) (r : V → Option Int → Option Int → Hp → VK → Prop) : Prop :=
  ∀ (pins : List (Addr × Obj)) (s : Shared) (σ : St) (H : Hp) (x : V) (v vl vu : Value) (lo hi : Option Int) (sl : Addr) (Q : VK), Inv X pins σ H s → RelV x v → s.heap.IsSliceOf sl vl vu .none → IsPart vl lo → IsPart vu hi → r x lo hi H Q →
    ∃ T id, typeLookup (.type T) "__getitem__" = pure (some (.builtin id)) ∧ s.TypeIs v T ∧ wpAny (model X.prog X.w) X.A (getItem v (.ref sl)) (EP X pins σ Q) X.xe s
def tSl (r : V → Option Int → Option Int → Hp → VK → Prop) (te : TE) (tl th : TO) : TE := fun σ H Q => te σ H fun x H1 => tl σ H1 fun l H2 => th σ H2 fun u H3 => r x l u H3 Q
theorem pe_slice {r : V → Option Int → Option Int → Hp → VK → Prop} (hr : SlR X r) (he : PE X e te) (hl : PO X lo tl) (hu : PO X hi th) : PE X (.Subscript e (.Slice lo hi none p2) pos) (tSl r te tl th) := by
  intro pins s σ H Q I h
  refine Subscript_ (thn (he pins s σ H _ I h) fun v s1 ⟨x, H1, I1, r1, q1⟩ => ?_)
  refine wpAny_Slice (thn (hl pins s1 σ H1 _ I1 q1) fun vl s2 ⟨l, H2, I2, pl, q2⟩ => thn (hu pins s2 σ H2 _ I2 q2) fun vu s3 ⟨u, H3, I3, pu, q3⟩ => ?_)
  rw [evalPart_none]
  refine wpAny_pure ?_
  have I4 : Inv X pins σ H3 { s3 with heap := s3.heap.push { cls := .type "slice", data := .fields #[vl, vu, .none] } } := I3.kept (t' := s3.toks) fun b ob q => Heap.get?_push_of_some _ q
  obtain ⟨T, id, hT, ht, hg⟩ := hr pins { s3 with heap := s3.heap.push { cls := .type "slice", data := .fields #[vl, vu, .none] } } σ H3 x v vl vu l u s3.heap.objs.size Q I4 r1 (Heap.IsSliceOf.new ..) pl pu q3
  show wpAny (model X.prog X.w) X.A (subscriptTail e (.Slice lo hi none p2) v (.ref s3.heap.objs.size)) (EP X pins σ Q) X.xe { s3 with heap := s3.heap.push { cls := .type "slice", data := .fields #[vl, vu, .none] } }
  exact tail_any (ops := [.ref s3.heap.objs.size, v]) ht hT hg (by with_unfolding_all rfl)
def cutV (xs : List V) (lo hi : Option Int) : List V := (xs.drop (HT.sIx xs.length 0 lo)).take (HT.sIx xs.length xs.length hi - HT.sIx xs.length 0 lo)
theorem cutV_length (xs : List V) (lo hi : Option Int) : (cutV xs lo hi).length ≤ xs.length := by
  unfold cutV
  rw [List.length_take, List.length_drop]
  omega
def rCatT (K : PySem.W.Frag) : R2 := fun x y H Q => ∃ a b xs ys, x = .ref a ∧ y = .ref b ∧ SqT K H a xs ∧ SqT K H b ys ∧ xs ≠ [] ∧ xs.length + ys.length ≤ sizeLine ∧
  (ys = [] → Q (.ref a) H) ∧ (ys ≠ [] → ∀ p, H p = none → Q (.ref p) (upd H p (.tup (xs ++ ys))))
theorem Vals.nil_iff {xs : List V} {us : List Value} (r : Vals xs us) : us = [] ↔ xs = [] := by
  cases r with
  | nil => simp
  | cons _ _ => simp
theorem op_catT : OpR X (binaryOp .Add) (rCatT X.K) := by
  intro pins s σ H x y v u Q I rx ry h
  obtain ⟨a, b, xs, ys, rfl, rfl, ha, hb, hx, hz, q1, q2⟩ := h
  cases rx
  cases ry
  obtain ⟨its, r1, p1, _⟩ := I.tuple ha
  obtain ⟨its2, r2, p2, _⟩ := I.tuple hb
  refine HT.cat_tup p1 p2 (fun z => hx (r1.nil_iff.mp z)) (fun z => ⟨.ref a, H, I, rfl, q1 (r2.nil_iff.mp z)⟩) (fun z => ?_) (by rw [← r1.length, ← r2.length]; exact hz)
  refine ⟨.ref s.heap.objs.size, _, I.laid (t' := s.toks) (o := .tup (xs ++ ys)) (fun b ob q => Heap.get?_push_of_some _ q) (Nat.le_refl _) ?_, rfl, q2 (fun w => z (r2.nil_iff.mpr w)) _ (I.hok.fresh (Nat.le_refl _))⟩
  exact ⟨by rw [List.length_append]; exact hz, _, r1.append r2, IsTup.new _ _⟩
end
end L2
namespace L2
open PySem PySem.Spec PyProof.Rows
def ixN (n : Nat) (i : Int) : Option Nat := if 0 ≤ i then (if i < n then some i.toNat else none) else if -(n : Int) ≤ i then some (i + n).toNat else none
def atI {α : Type} (xs : List α) (i : Int) : Option α := (ixN xs.length i).bind fun j => xs[j]?
theorem ixN_seq {n : Nat} {i : Int} {j : Nat} (h : ixN n i = some j) : seqIndex? i n = some j ∧ j < n ∧ -(n : Int) ≤ i ∧ i < n := by
  unfold ixN at h
  by_cases h0 : 0 ≤ i
  · rw [if_pos h0] at h
    by_cases h1 : i < n
    · rw [if_pos h1] at h
      have e : i.toNat = j := Option.some.inj h
      exact ⟨by rw [seqIndex_of h0 h1, e], by omega, by omega, h1⟩
    · rw [if_neg h1] at h; cases h
  · rw [if_neg h0] at h
    by_cases h1 : -(n : Int) ≤ i
    · rw [if_pos h1] at h
      have e : (i + n).toNat = j := Option.some.inj h
      exact ⟨by rw [seqIndex_neg (by omega) h1, e], by omega, h1, by omega⟩
    · rw [if_neg h1] at h; cases h
theorem atI_get {α : Type} {xs : List α} {i : Int} {v : α} (h : atI xs i = some v) : ∃ j, seqIndex? i xs.length = some j ∧ xs[j]? = some v ∧ j < xs.length ∧ -(xs.length : Int) ≤ i ∧ i < xs.length := by
  unfold atI at h
  cases e : ixN xs.length i with
  | none => rw [e] at h; cases h
  | some j =>
    rw [e] at h
    obtain ⟨h1, h2, h3, h4⟩ := ixN_seq e
    exact ⟨j, h1, h, h2, h3, h4⟩
theorem atI_nat {α : Type} {xs : List α} {j : Nat} {v : α} (h : xs[j]? = some v) : atI xs (j : Int) = some v := by
  have hj : j < xs.length := (List.getElem?_eq_some_iff.mp h).1
  have e : ixN xs.length (j : Int) = some j := by
    unfold ixN
    rw [if_pos (by omega), if_pos (by omega)]; simp
  unfold atI; rw [e]; exact h
theorem atI_last {α : Type} (xs : List α) (v : α) : atI (xs ++ [v]) (-1) = some v := by
  have hl : (xs ++ [v]).length = xs.length + 1 := by simp
  have e : ixN (xs ++ [v]).length (-1) = some xs.length := by
    unfold ixN
    rw [hl, if_neg (by decide), if_pos (by omega)]
    congr 1
    omega
  unfold atI
  rw [e]
  show (xs ++ [v])[xs.length]? = some v
  simp
def PlainIx (b : Expr) : Prop := ∀ o i, subscripted b false o i = operate [o, i] (getItem o i)
def IxR (X : Cx) (r : R2) : Prop :=
  ∀ (value slice : Expr) (pins : List (Addr × Obj)) (s : Shared) (σ : St) (H : Hp) (x y : V) (v u : Value) (Q : VK), Inv X pins σ H s → RelV x v → RelV y u → r x y H Q →
    subscripted slice false v u = operate [v, u] (getItem v u) → wpAny (model X.prog X.w) X.A (subscriptTail value slice v u) (EP X pins σ Q) X.xe s
def MtR (X : Cx) (id : String) (r : V → List V → Hp → VK → Prop) : Prop :=
  ∀ (pins : List (Addr × Obj)) (s : Shared) (σ : St) (H : Hp) (x : V) (xs : List V) (v : Value) (us : List Value) (Q : VK), Inv X pins σ H s → RelV x v → Vals xs us → r x xs H Q →
    wpAny (model X.prog X.w) X.A (call (.builtin id) (v :: us)) (EP X pins σ Q) X.xe s
section
variable {X : Cx} {a b : Expr} {ta tb : TE} {pos : Pos}
theorem pe_ix {r : R2} (hr : IxR X r) (ha : PE X a ta) (hb : PE X b tb) (hs : PlainIx b) : PE X (.Subscript a b pos) (tOp r ta tb) := by
  intro pins s σ H Q I h
  exact Subscript_ (binT ha hb I h fun v u s2 x y H2 I2 rx ry q => hr a b pins s2 σ H2 x y v u Q I2 rx ry q (hs _ _))
def rIxL (K : PySem.W.Frag) : R2 := fun x y H Q => ∃ p xs i v, x = .ref p ∧ y = .int i ∧ SqL K H p xs ∧ atI xs i = some v ∧ Q v H
def rIxT (K : PySem.W.Frag) : R2 := fun x y H Q => ∃ p xs i v, x = .ref p ∧ y = .int i ∧ SqT K H p xs ∧ atI xs i = some v ∧ Q v H
def rIxS : R2 := fun x y H Q => ∃ z i c, x = .str z ∧ y = .int i ∧ z.length ≤ sizeLine ∧ atI z.cps.toList i = some c ∧ Q (.str ⟨#[c]⟩) H
theorem ix_list : IxR X (rIxL X.K) := by
  intro value slice pins s σ H x y v u Q I rx ry h hs
  obtain ⟨p, xs, i, z, rfl, rfl, hq, he, q⟩ := h
  cases rx
  obtain ⟨t, rfl⟩ := ry
  obtain ⟨its, r, pl, hz⟩ := I.list hq
  obtain ⟨j, h1, h2, h3, h4, h5⟩ := atI_get he
  obtain ⟨w, ew, rw'⟩ := r.get h2
  have hl := r.length
  have hn := line63
  have fin : EP X pins σ Q w s := ⟨z, H, I, rw', q⟩
  by_cases h0 : 0 ≤ i
  · have hj : i.toNat = j := by
      rw [seqIndex_of h0 h5] at h1
      exact Option.some.inj h1
    exact item_listR pl.isList h0 (by omega) (by rw [hj]; simpa using ew) fin hs
  · have hj : (i + (its.toArray.size : Int)).toNat = j := by
      rw [seqIndex_neg (by omega) h4] at h1
      rw [List.size_toArray, ← hl]
      exact Option.some.inj h1
    exact subscriptTail_builtinR (x := w) pl.isList.typeIs slot_list_getitem.lookup
      (wpAny_getItem_list_neg (Q := fun r s' => r = w ∧ EP X pins σ Q r s') pl.isList (by omega) (by rw [List.size_toArray] <;> omega) (by omega) (by rw [hj]; simpa using ew) ⟨rfl, fin⟩) hs
theorem ix_tup : IxR X (rIxT X.K) := by
  intro value slice pins s σ H x y v u Q I rx ry h hs
  obtain ⟨p, xs, i, z, rfl, rfl, hq, he, q⟩ := h
  cases rx
  obtain ⟨t, rfl⟩ := ry
  obtain ⟨its, r, pl, hz⟩ := I.tuple hq
  obtain ⟨j, h1, h2, h3, h4, h5⟩ := atI_get he
  obtain ⟨w, ew, rw'⟩ := r.get h2
  have hl := r.length
  have hn := line63
  have fin : EP X pins σ Q w s := ⟨z, H, I, rw', q⟩
  exact subscriptTail_builtinR (x := w) pl.typeIs slot_tuple_getitem.lookup
    (getItem_tuple (j := j) (Q := fun r s' => r = w ∧ EP X pins σ Q r s') pl (by omega) (by omega) (by rw [List.size_toArray, ← hl]; exact h1) (by simpa using ew) ⟨rfl, fin⟩) hs
theorem ix_str : IxR X rIxS := by
  intro value slice pins s σ H x y v u Q I rx ry h hs
  obtain ⟨z, i, c, rfl, rfl, hz, he, q⟩ := h
  obtain ⟨t, rfl⟩ := rx
  obtain ⟨t', rfl⟩ := ry
  obtain ⟨j, h1, h2, h3, h4, h5⟩ := atI_get he
  have hl : z.cps.toList.length = z.length := by simp [Str.length]
  rw [hl] at h1 h4 h5
  have hn := line63
  exact tail_any (typeIs_str s z t) slot_str_getitem.lookup (getItem_str (c := c) (by
    have e1 : decide (i < -(2 ^ 63 : Int)) = false := decide_eq_false (by omega)
    have e2 : decide (i ≥ 2 ^ 63) = false := decide_eq_false (by omega)
    rw [e1, e2, Bool.or_false]) (by rw [h1]; simpa using h2) ⟨.str ⟨#[c]⟩, H, I.tok _, ⟨_, rfl⟩, q⟩) hs
theorem slice_bounds (lo hi : Option Int) (n : Nat) : (sliceBounds lo hi none n).1 = ((HT.sIx n 0 lo : Nat) : Int) ∧ (sliceBounds lo hi none n).2.1 = ((HT.sIx n n hi : Nat) : Int) ∧ (sliceBounds lo hi none n).2.2 = 1 := by
  refine ⟨?_, ?_, rfl⟩
  · cases lo with
    | none => simp [sliceBounds, HT.sIx]
    | some i =>
      simp only [sliceBounds, HT.sIx, Option.getD_none, show (1 : Int) > 0 by decide, if_true]
      by_cases h : i < 0
      · simp only [h, if_true] <;> omega
      · simp only [h, if_false] <;> omega
  · cases hi with
    | none => simp [sliceBounds, HT.sIx]
    | some i =>
      simp only [sliceBounds, HT.sIx, Option.getD_none, show (1 : Int) > 0 by decide, if_true]
      by_cases h : i < 0
      · simp only [h, if_true] <;> omega
      · simp only [h, if_false] <;> omega
theorem slicePick_cut (its : List Value) (lo hi : Option Int) : slicePick its.toArray lo hi none = ((its.drop (HT.sIx its.length 0 lo)).take (HT.sIx its.length its.length hi - HT.sIx its.length 0 lo)).toArray := by
  obtain ⟨h1, h2, h3⟩ := slice_bounds lo hi its.toArray.size
  unfold slicePick
  rw [h1, h2, h3]
  simp only [sliceRange_one, pick_run, List.size_toArray] <;> rfl
def rSlL (K : PySem.W.Frag) : V → Option Int → Option Int → Hp → VK → Prop := fun x lo hi H Q => ∃ a xs, x = .ref a ∧ SqL K H a xs ∧ ∀ p, H p = none → Q (.ref p) (upd H p (.lst (cutV xs lo hi)))
theorem sl_list : SlR X (rSlL X.K) := by
  intro pins s σ H x v vl vu lo hi sl Q I rx hs pl pu h
  obtain ⟨a, xs, rfl, hx, q⟩ := h
  cases rx
  obtain ⟨its, r, ht, hz⟩ := I.list hx
  have hlen := r.length
  refine ⟨"list", _, slot_list_getitem.lookup, ht.isList.typeIs, ?_⟩
  refine wpAny_getItem_list_slice ht.isList hs pl pu .none (by simp) ?_ (by rw [List.size_toArray] <;> omega)
  rw [slicePick_cut, ← hlen]
  refine ⟨.ref s.heap.objs.size, _, I.laid (t' := s.toks) (o := .lst (cutV xs lo hi)) (fun b ob q => Heap.get?_push_of_some _ q) (Nat.le_refl _) ?_, rfl, q _ (I.hok.fresh (Nat.le_refl _))⟩
  exact ⟨Nat.le_trans (cutV_length xs lo hi) hz, _, 0, (r.drop (HT.sIx xs.length 0 lo)).take (HT.sIx xs.length xs.length hi - HT.sIx xs.length 0 lo), Heap.get?_push_size _ rfl⟩
def flatV : V → Bool
  | .non => true
  | .bl _ => true
  | .int _ => true
  | .str _ => true
  | _ => false
def eqV : V → V → Bool
  | .non, .non => true
  | .bl a, .bl b => a == b
  | .bl a, .int b => (if a then 1 else 0) == b
  | .int a, .bl b => a == (if b then 1 else 0)
  | .int a, .int b => a == b
  | .str a, .str b => a == b
  | _, _ => false
theorem eqAt_V {A : Around} {s : Shared} {y x : V} {u v : Value} (ry : RelV y u) (rx : RelV x v) (fy : flatV y = true) (fx : flatV x = true) : SeqAt.EqAt A s u v (eqV y x) := by
  cases y with
  | non =>
    cases ry
    cases x with
    | non => cases rx; exact SeqAt.EqAt.same _
    | bl b => cases rx; exact SeqAt.EqAt.none_bool b
    | int b => obtain ⟨t, rfl⟩ := rx; exact SeqAt.EqAt.none_int b t
    | str b => obtain ⟨t, rfl⟩ := rx; exact SeqAt.EqAt.none_str b t
    | _ => exact absurd (show false = true from fx) Bool.false_ne_true
  | bl a =>
    cases ry
    cases x with
    | non => cases rx; exact SeqAt.EqAt.bool_none a
    | bl b => cases rx; exact SeqAt.EqAt.bool_bool a b
    | int b => obtain ⟨t, rfl⟩ := rx; exact SeqAt.EqAt.bool_int a b t
    | str b => obtain ⟨t, rfl⟩ := rx; exact SeqAt.EqAt.bool_str a b t
    | _ => exact absurd (show false = true from fx) Bool.false_ne_true
  | int a =>
    obtain ⟨t', rfl⟩ := ry
    cases x with
    | non => cases rx; exact SeqAt.EqAt.int_none a t'
    | bl b => cases rx; exact SeqAt.EqAt.int_bool a t' b
    | int b => obtain ⟨t, rfl⟩ := rx; exact SeqAt.EqAt.int_int a t' b t
    | str b => obtain ⟨t, rfl⟩ := rx; exact SeqAt.EqAt.int_str a t' b t
    | _ => exact absurd (show false = true from fx) Bool.false_ne_true
  | str a =>
    obtain ⟨t', rfl⟩ := ry
    cases x with
    | non => cases rx; exact SeqAt.EqAt.str_none a t'
    | bl b => cases rx; exact SeqAt.EqAt.str_bool a t' b
    | int b => obtain ⟨t, rfl⟩ := rx; exact SeqAt.EqAt.str_int a t' b t
    | str b => obtain ⟨t, rfl⟩ := rx; exact SeqAt.EqAt.str_str a t' b t
    | _ => exact absurd (show false = true from fx) Bool.false_ne_true
  | _ => exact absurd (show false = true from fy) Bool.false_ne_true
def eqU (x : V) (u : Value) : Bool := match u with
  | .none => eqV .non x
  | .bool b => eqV (.bl b) x
  | .int i _ => eqV (.int i) x
  | .str z _ => eqV (.str z) x
  | _ => false
theorem eqU_of {x y : V} {u : Value} (r : RelV y u) (f : flatV y = true) : eqU x u = eqV y x := by
  cases y with
  | non => cases r; rfl
  | bl b => cases r; rfl
  | int i => obtain ⟨t, rfl⟩ := r; rfl
  | str z => obtain ⟨t, rfl⟩ := r; rfl
  | _ => exact absurd (show false = true from f) Bool.false_ne_true
theorem any_eqU {x : V} : ∀ {xs : List V} {us : List Value}, Vals xs us → xs.all flatV = true → us.any (eqU x) = xs.any fun y => eqV y x
  | _, _, .nil, _ => rfl
  | y :: xs, u :: us, .cons r t, f => by
    rw [List.all_cons, Bool.and_eq_true] at f
    rw [List.any_cons, List.any_cons, eqU_of r f.1, any_eqU t f.2]
theorem mem_eqAt {A : Around} {s : Shared} {x : V} {v : Value} (rx : RelV x v) (fx : flatV x = true) : ∀ {xs : List V} {us : List Value}, Vals xs us → xs.all flatV = true → ∀ u ∈ us, SeqAt.EqAt A s u v (eqU x u)
  | _, _, .nil, _ => fun u hu => by cases hu
  | y :: xs, u :: us, .cons r t, f => fun u' hu => by
    rw [List.all_cons, Bool.and_eq_true] at f
    rcases List.mem_cons.mp hu with rfl | hu
    · rw [eqU_of r f.1]; exact eqAt_V r rx f.1 fx
    · exact mem_eqAt rx fx t f.2 u' hu
def inV (x : V) (xs : List V) : Bool := xs.any fun y => eqV y x
def rIn (K : PySem.W.Frag) (neg : Bool) : R2 := fun x y H Q => ∃ p xs, y = .ref p ∧ (SqL K H p xs ∨ SqT K H p xs) ∧ flatV x = true ∧ xs.all flatV = true ∧ Q (.bl (if neg then !inV x xs else inV x xs)) H
theorem op_in_seq : OpR X (compareOp .In) (rIn X.K false) := by
  intro pins s σ H x y v u Q I rx ry h
  obtain ⟨p, xs, rfl, hq, fx, fs, q⟩ := h
  cases ry
  rcases hq with hq | hq
  · obtain ⟨its, r, pl, hz⟩ := I.list hq
    refine SeqAt.in_listAt (eqU x) pl.isList (fun w hw => mem_eqAt rx fx r fs w (by simpa using hw)) ⟨.bl _, H, I, rfl, ?_⟩
    rw [show its.toArray.any (eqU x) = its.any (eqU x) by simp, any_eqU r fs]
    exact q
  · obtain ⟨its, r, pl, hz⟩ := I.tuple hq
    refine SeqAt.in_tupleAt (eqU x) pl (fun w hw => mem_eqAt rx fx r fs w (by simpa using hw)) ⟨.bl _, H, I, rfl, ?_⟩
    rw [show its.toArray.any (eqU x) = its.any (eqU x) by simp, any_eqU r fs]
    exact q
theorem call_len_seq : CallR X (.builtin "len") (fun xs H Q => ∃ p ys, xs = [.ref p] ∧ (SqL X.K H p ys ∨ SqT X.K H p ys) ∧ Q (.int ys.length) H) := by
  intro pins s σ H xs us Q I r h
  obtain ⟨p, ys, rfl, hq, q⟩ := h
  obtain ⟨u, rfl, rx⟩ := vals1 r
  cases rx
  have hn := line63
  rcases hq with hq | hq
  · obtain ⟨its, r', pl, hz⟩ := I.list hq
    have hlen := r'.length
    exact Calls.call_len_list pl.isList (by simp only [List.size_toArray] <;> omega) ⟨.int ys.length, H, I.tok _, ⟨s.toks + 1, by rw [List.size_toArray, hlen]⟩, q⟩
  · obtain ⟨its, r', pl, hz⟩ := I.tuple hq
    have hlen := r'.length
    exact len_tuple pl (by simp only [List.size_toArray] <;> omega) ⟨.int ys.length, H, I.tok _, ⟨s.toks + 1, by rw [List.size_toArray, hlen]⟩, q⟩
theorem call_len_str : CallR X (.builtin "len") (fun xs H Q => ∃ z, xs = [.str z] ∧ z.length ≤ sizeLine ∧ Q (.int z.length) H) := by
  intro pins s σ H xs us Q I r h
  obtain ⟨z, rfl, hz, q⟩ := h
  obtain ⟨u, rfl, t, rfl⟩ := vals1 r
  have hn := line63
  exact len_str (by omega) ⟨.int z.length, H, I.tok _, ⟨_, rfl⟩, q⟩
theorem call_list_of : CallR X (.type "list") (fun xs H Q => ∃ p ys, xs = [.ref p] ∧ (SqL X.K H p ys ∨ SqT X.K H p ys) ∧ ∀ l, H l = none → Q (.ref l) (upd H l (.lst ys))) := by
  intro pins s σ H xs us Q I r h
  obtain ⟨p, ys, rfl, hq, q⟩ := h
  obtain ⟨u, rfl, rx⟩ := vals1 r
  cases rx
  have fin : ∀ (its : List Value), Vals ys its → ys.length ≤ sizeLine → ∀ (h' : Heap) (c' : Nat), (∀ b o', s.heap.get? b = some o' → h'.get? b = some o') →
      h'.get? s.heap.objs.size = some { cls := .type "list", dict := none, data := .seq its.toArray c', slots := #[] } → EP X pins σ Q (.ref s.heap.objs.size) { s with heap := h' } := fun its r' hz h' c' kp e =>
    ⟨.ref s.heap.objs.size, _, I.laid (t' := s.toks) kp (Nat.le_refl _) (show ObjOk X.prog X.w _ h' _ (.lst ys) from ⟨hz, its, c', r', e⟩), rfl, q _ (I.hok.fresh (Nat.le_refl _))⟩
  rcases hq with hq | hq
  · obtain ⟨its, r', pl, hz⟩ := I.list hq
    have hlen := r'.length
    obtain ⟨o, ho, hc, n, hd⟩ := pl.isList
    exact call_list_seq p (.inl rfl) ho hc hd (fun h' c' kp e => fin its r' hz h' c' kp e) (by simp only [List.size_toArray] <;> omega)
  · obtain ⟨its, r', pl, hz⟩ := I.tuple hq
    have hlen := r'.length
    obtain ⟨o, ho, hc, n, hd⟩ := pl
    exact call_list_seq p (.inr rfl) ho hc hd (fun h' c' kp e => fin its r' hz h' c' kp e) (by simp only [List.size_toArray] <;> omega)
theorem call_tuple_of : CallR X (.type "tuple") (fun xs H Q => ∃ p ys, xs = [.ref p] ∧ ((SqL X.K H p ys ∧ ∀ l, H l = none → Q (.ref l) (upd H l (.tup ys))) ∨ (SqT X.K H p ys ∧ Q (.ref p) H))) := by
  intro pins s σ H xs us Q I r h
  obtain ⟨p, ys, rfl, h⟩ := h
  obtain ⟨u, rfl, rx⟩ := vals1 r
  cases rx
  rcases h with ⟨hq, q⟩ | ⟨hq, q⟩
  · obtain ⟨its, r', pl, hz⟩ := I.list hq
    have hlen := r'.length
    refine call_tuple_list pl.isList (fun h' kp => ?_) (by simp only [List.size_toArray] <;> omega)
    have I1 : Inv X pins σ H { s with heap := h' } := I.kept (t' := s.toks) kp
    have I2 : Inv X pins σ (upd H h'.objs.size (.tup ys)) { s with heap := h'.push { cls := .type "tuple", data := .seq its.toArray } } :=
      I1.laid (t' := s.toks) (fun b o e => Heap.get?_push_of_some _ e) (Nat.le_refl _) (show ObjOk X.prog X.w _ _ _ (.tup ys) from ⟨hz, its, r', IsTup.new _ _⟩)
    exact ⟨.ref h'.objs.size, _, I2, rfl, q _ (I1.hok.fresh (Nat.le_refl _))⟩
  · obtain ⟨its, r', pl, hz⟩ := I.tuple hq
    exact call_tuple_same pl ⟨.ref p, H, I, rfl, q⟩
def tyV (K : PySem.W.Frag) (T : String) (x : V) (H : Hp) : Prop := match x with
  | .str _ => T = "str"
  | .int _ => T = "int"
  | .ref p => (T = "list" ∧ ∃ xs, SqL K H p xs) ∨ (T = "tuple" ∧ ∃ o, K.lookup p = some o ∧ o.cls = .type "tuple" ∧ o.dict = none) ∨
      (T = "dict" ∧ ((∃ kvs, H p = some (.dK kvs)) ∨ ∃ kvs, H p = some (.dT kvs))) ∨ (T = "set" ∧ ∃ S n, H p = some (.set S n))
  | _ => False
theorem tyV_is {pins : List (Addr × Obj)} {σ : St} {H : Hp} {s : Shared} {T : String} {x : V} {v : Value} (I : Inv X pins σ H s) (r : RelV x v) (ty : tyV X.K T x H) :
    s.TypeIs v T ∧ ∀ a, v = .ref a → ∃ ob, s.heap.get? a = some ob ∧ ob.dict = none := by
  cases x with
  | str z =>
    obtain ⟨t, rfl⟩ := r
    cases (show T = "str" from ty)
    exact ⟨typeIs_str s z t, fun _ e => nomatch e⟩
  | int i =>
    obtain ⟨t, rfl⟩ := r
    cases (show T = "int" from ty)
    exact ⟨typeIs_int s i t, fun _ e => nomatch e⟩
  | ref p =>
    cases r
    rcases ty with ⟨rfl, xs, hq⟩ | ⟨rfl, o, hk, hc, hd⟩ | ⟨rfl, hk⟩ | ⟨rfl, S, n, hk⟩
    · obtain ⟨its, _, pl, _⟩ := I.list hq
      refine ⟨pl.isList.typeIs, fun a e => ?_⟩
      cases e
      obtain ⟨o, n, e, c, hd, _⟩ := pl
      exact ⟨o, e, hd⟩
    · refine ⟨⟨o, I.kIn p o hk, hc⟩, fun a e => ?_⟩
      cases e
      exact ⟨o, I.kIn _ o hk, hd⟩
    · have z : ∃ o, s.heap.get? p = some o ∧ o.ExactDict := by
        rcases hk with ⟨kvs, hk⟩ | ⟨kvs, hk⟩
        · obtain ⟨_, _, _, _, o, _, _, e, ex, _⟩ := I.hok p _ hk
          exact ⟨o, e, ex⟩
        · obtain ⟨_, _, _, _, o, _, _, e, ex, _⟩ := I.hok p _ hk
          exact ⟨o, e, ex⟩
      obtain ⟨o, e, ex⟩ := z
      refine ⟨⟨o, e, ex.1⟩, fun a e2 => ?_⟩
      cases e2
      exact ⟨o, e, ex.2.1⟩
    · obtain ⟨o, _, _, _, e, ex, _⟩ := I.hok p _ hk
      refine ⟨⟨o, e, ex.1⟩, fun a e2 => ?_⟩
      cases e2
      exact ⟨o, e, ex.2.1⟩
  | _ => exact False.elim ty
def tBM (K : PySem.W.Frag) (T : String) (r : V → List V → Hp → VK → Prop) (to : TE) (t : TA) : TE := fun σ H Q => to σ H fun x H1 => tyV K T x H1 ∧ t σ H1 fun xs H2 => r x xs H2 Q
variable {o e : Expr} {es : List Expr} {to : TE} {t : TA} {name : Str} {apos cpos : Pos} {T id : String} {r : V → List V → Hp → VK → Prop}
theorem pe_bm (pa : PlainAttrs T) (slot : Slot T name id) (hty : typeOf (.builtin id) = pure (.type "method_descriptor")) (hm : MtR X id r) (ho : PE X o to) (ha : PA X (e :: es) t)
    (hbase : attributeBase o name X.env (eval o X.env) = eval o X.env := by rfl)
    (hfew : ((backTo cpos (starEach (e :: es) X.env)).all (fun x => !x.1) && (backToKw cpos (keywordEach [] X.env)).all (fun x => x.1.isSome)
      && decide ((e :: es).length + ([] : List Keyword).length + (if ([] : List Keyword).isEmpty then 0 else 1) < 30)) = true := by rfl)
    (hline : (apos.endLine == cpos.line) = true := by rfl) (hs : starEach (e :: es) X.env = (false, eval e X.env) :: starEach es X.env := by rfl) (hplain : (backTo cpos (starEach es X.env)).any (·.1) = false := by rfl) :
    PE X (.Call (.Attribute o name apos) (e :: es) [] cpos) (tBM X.K T r to t) := by
  intro pins s σ H Q I h
  refine wpAny_Call_method_late hbase hfew hline rfl (thn (ho pins s σ H _ I h) fun v s1 ⟨x, H1, I1, r1, ty, q1⟩ => ?_)
  obtain ⟨h1, h2⟩ := tyV_is I1 r1 ty
  refine ⟨T, id, pa, slot, hty, h1, h2, ?_⟩
  have hA := ha cpos pins s1 σ H1 _ I1 q1
  rw [hs] at hA ⊢
  refine Calls.callWith_builtin (by show (false || (backTo cpos (starEach es X.env)).any (·.1)) = false; rw [hplain] <;> rfl) (Calls.evalArgs_plain ?_)
  exact thn hA fun us s2 ⟨vs, H2, I2, r2, q2⟩ => hm pins s2 σ H2 x vs v us Q I2 r1 r2 q2
end
end L2
namespace L2
open PySem PySem.Spec PyProof.Rows
def MtM (X : Cx) (id : String) (r : V → List V → Hp → VK → Prop) : Prop :=
  ∀ (pins : List (Addr × Obj)) (s : Shared) (σ : St) (H : Hp) (x : V) (xs : List V) (v : Value) (us : List Value) (Q : VK), Inv X pins σ H s → RelV x v → Vals xs us → r x xs H Q →
    wpAny (model X.prog X.w) X.A (call (.builtin id) (v :: us)) (EP X pins σ Q) X.xe s
theorem Vals.one : ∀ {x : V} {us : List Value}, Vals [x] us → ∃ u, us = [u] ∧ RelV x u
  | _, _, .cons r .nil => ⟨_, rfl, r⟩
section
variable {X : Cx} {pins : List (Addr × Obj)} {σ : St} {H : Hp} {s : Shared} {l b : Addr} {xs ys zs : List V}
theorem Inv.lset {its its' : List Value} {n : Nat} {f : Array Value → Array Value} {t' : Nat} (I : Inv X pins σ H s) (hH : H l = some (.lst xs))
    (e : s.heap.get? l = some { cls := .type "list", data := .seq its.toArray n }) (hf : f its.toArray = its'.toArray) (hv : Vals ys its') (hz : ys.length ≤ sizeLine) :
    Inv X pins σ (upd H l (.lst ys)) { s with heap := s.heap.update l (Obj.mapSeq f), toks := t' } := by
  have q := PySem.IsL.update e f
  rw [hf] at q
  refine I.write (x := l) (e := l) (by rw [hH]; exact trivial) (.inl rfl) (fun b' u hb hu => (Heap.get?_update_other s.heap (Obj.mapSeq f) (Ne.symm hb)).trans hu) ⟨_, q⟩ ?_
  exact ⟨hz, its', _, hv, q⟩
theorem Inv.lnew {its : List Value} {t' : Nat} (I : Inv X pins σ H s) (hv : Vals ys its) (hz : ys.length ≤ sizeLine) :
    Inv X pins σ (upd H s.heap.objs.size (.lst ys)) { s with heap := s.heap.push { cls := .type "list", data := .seq its.toArray }, toks := t' } :=
  I.laid (fun _ _ q => Heap.get?_push_of_some _ q) (Nat.le_refl _) ⟨hz, its, 0, hv, Heap.get?_push_size _ rfl⟩
theorem Inv.fresh (I : Inv X pins σ H s) : H s.heap.objs.size = none := I.hok.fresh (Nat.le_refl _)
theorem Inv.lstM (I : Inv X pins σ H s) (hH : H l = some (.lst xs)) : xs.length ≤ sizeLine ∧ ∃ (its : List Value) (n : Nat), Vals xs its ∧ xs.length = its.length ∧ s.heap.get? l = some { cls := .type "list", data := .seq its.toArray n } := by
  obtain ⟨z, its, n, r, e⟩ := I.hok l _ hH
  exact ⟨z, its, n, r, r.length, e⟩
theorem notLongL {n : Nat} (h : n ≤ sizeLine) : Builtin.List.listTooLong n = false := by
  unfold Builtin.List.listTooLong
  exact decide_eq_false (by omega)
end
section
variable {X : Cx}
def rAppend : V → List V → Hp → VK → Prop := fun x vs H Q => ∃ l xs y, x = .ref l ∧ vs = [y] ∧ H l = some (.lst xs) ∧ xs.length < sizeLine ∧ Q .non (upd H l (.lst (xs ++ [y])))
theorem mt_append : MtM X "list.append" rAppend := by
  intro pins s σ H x vs v us Q I rx rv h
  obtain ⟨l, xs, y, rfl, rfl, hH, hz, q⟩ := h
  cases rx
  obtain ⟨u, rfl, ru⟩ := rv.one
  obtain ⟨z, its, n, r, hl, e⟩ := I.lstM hH
  refine call_meets F.slot_list_append ⟨_, e, rfl⟩ F.entry_list_append (F.args_list_append_2 _ _) (PySem.list_append l its.toArray n u (by rw [List.size_toArray]; omega)) ⟨e, ?_⟩
  refine ⟨.non, _, I.lset (its' := its ++ [u]) hH e (by simp) (r.append (.cons ru .nil)) ?_, rfl, q⟩
  rw [List.length_append, List.length_singleton]
  omega
def rExtend : V → List V → Hp → VK → Prop := fun x vs H Q => ∃ l b xs zs, x = .ref l ∧ vs = [.ref b] ∧ H l = some (.lst xs) ∧ H b = some (.lst zs) ∧ xs.length + zs.length ≤ sizeLine ∧ Q .non (upd H l (.lst (xs ++ zs)))
theorem mt_extend : MtM X "list.extend" rExtend := by
  intro pins s σ H x vs v us Q I rx rv h
  obtain ⟨l, b, xs, zs, rfl, rfl, hH, hB, hz, q⟩ := h
  cases rx
  obtain ⟨u, rfl, ru⟩ := rv.one
  cases ru
  obtain ⟨z, its, n, r, hl, e⟩ := I.lstM hH
  obtain ⟨z2, its2, n2, r2, hl2, e2⟩ := I.lstM hB
  have hsz : its.toArray.size + its2.toArray.size ≤ sizeLine := by rw [List.size_toArray, List.size_toArray]; omega
  have hlong : ¬ (!its.toArray.isEmpty && Builtin.List.listTooLong (its.toArray.size + its2.toArray.size)) = true := by
    rw [notLongL hsz, Bool.and_false]
    exact Bool.false_ne_true
  refine call_meets F.slot_list_extend ⟨_, e, rfl⟩ F.entry_list_extend (F.args_list_extend_2 _ _)
    (AutoSeq1.list_extend_list_list_0 l its.toArray n b its2.toArray n2 hlong (by rw [List.size_toArray]; omega) (by omega)) ⟨e, e2, ?_⟩
  refine ⟨.non, _, I.lset (its' := its ++ its2) hH e (by simp) (r.append r2) ?_, rfl, q⟩
  rw [List.length_append]
  omega
def rCat : R2 := fun x y H Q => ∃ l b xs zs, x = .ref l ∧ y = .ref b ∧ H l = some (.lst xs) ∧ H b = some (.lst zs) ∧ xs.length + zs.length ≤ sizeLine ∧ ∀ p, H p = none → Q (.ref p) (upd H p (.lst (xs ++ zs)))
theorem op_cat : OpR X (binaryOp .Add) rCat := by
  intro pins s σ H x y v u Q I rx ry h
  obtain ⟨l, b, xs, zs, rfl, rfl, hH, hB, hz, q⟩ := h
  cases rx
  cases ry
  obtain ⟨z, its, n, r, hl, e⟩ := I.lstM hH
  obtain ⟨z2, its2, n2, r2, hl2, e2⟩ := I.lstM hB
  refine PySem.P.add_list e e2 ?_ (by rw [List.size_toArray, List.size_toArray]; omega)
  have ea : its.toArray ++ its2.toArray = (its ++ its2).toArray := by simp
  rw [ea]
  exact ⟨.ref _, _, I.lnew (t' := s.toks) (r.append r2) (by rw [List.length_append]; omega), rfl, q _ I.fresh⟩
end
section
variable {prog : Program} {w : World} {A : Around} {E : Value → Shared → Prop} {s : Shared}
set_option maxRecDepth 100000 in
end
section
variable {X : Cx}
end
end L2
namespace Att
open PySem PySem.W PySem.Calls PyProof.Rows
theorem ints_of_wellAll {P : Params} {h : Heap} : ∀ (ns : List Int) (vs : List Value), WellAll P h vs (ns.map WData.int) → IntsAre vs ns := by
  intro ns
  induction ns with
  | nil =>
    intro vs w
    rw [List.map_nil] at w
    cases w
    exact .nil
  | cons n ns ih =>
    intro vs w
    rw [List.map_cons] at w
    cases w with
    | cons a b =>
      cases a
      exact .cons _ _ (ih _ b)
theorem script_of {l : OpenLaw} {n : Nat} (hn : l.most = some n) {P : Params} {h : Heap} {args : List WData} {vals : List Value}
    (hpre : l.row.toRowW.claim.pre args = true) (hwl : WellAll P h vals args) :
    ∃ a vs ns, vals = [Value.ref a] ∧ args = [WData.list (ns.map WData.int)] ∧ h.get? a = some { cls := .type "list", data := .seq vs.toArray } ∧ IntsAre vs ns ∧ ns.length ≤ n := by
  have hsh : WShape.hasAll [] args [.list .int] = true := (pre_splitW hpre).1
  have hc : l.pre.holds [] { args := args } = true := (pre_splitW hpre).2
  obtain ⟨d, r, rfl, h1, h2⟩ := hasAllW_cons hsh
  obtain rfl := hasAllW_nil h2
  obtain ⟨xs, rfl, h3⟩ := hasW_list h1
  obtain ⟨ns, rfl⟩ := items_int h3
  have hlen : ns.length ≤ n := by
    unfold OpenLaw.pre at hc
    have h4 : (WTm.not (.lt (.lit (.int (n : Int))) (.len (.arg 0)))).holds [] { args := [.list (ns.map .int)] } = true := by
      have h4 := (holds_andW hc).1
      rw [hn] at h4
      exact h4
    have h5 := condW_of h4 (w_not (w_lt w_lit (w_len_list (w_arg rfl))))
    rw [List.length_map] at h5
    refine Nat.le_of_not_lt fun q => ?_
    have q' : (n : Int) < ((ns.length : Nat) : Int) := by omega
    first
      | (rw [decide_eq_true q'] at h5; exact absurd h5 (by decide))
      | (simp at h5; omega)
  cases hwl with
  | cons w1 w2 =>
    cases w2
    cases w1 with
    | list ho hall => exact ⟨_, _, ns, rfl, rfl, ho, ints_of_wellAll ns _ hall, hlen⟩
theorem post_true (l : OpenLaw) (args : List WData) : l.row.toRowW.claim.post args (.bool true) args = true :=
  postW_of (r := l.row.toRowW) (X := (true == true))
    (show WShape.has [] (.bool true) .bool = true by first | rfl | decide | simp [WShape.has, WShape.arms, WShape.armsAll])
    (show (WTm.eq .res (.lit (.bool true))).value [] { args := args, res := some (.bool true), after := args } = some (.bool (true == true)) from w_eq_bool (w_res rfl) w_lit) rfl
theorem attach_call {l : OpenLaw} {n : Nat} {q : Program} {loose : List Str} {XP : (Str → Option Value) → Heap → Prop} {YP : World → Heap → Prop} {d : DefRec}
    (hn : l.most = some n) (hdf : d.params.defaults = [])
    (call : ∀ (w : World) (s₀ s₁ : Shared) (mg mb : Str → Option Value) (fa : Addr) (o : Obj) (pm cd doc : Value) (a : Addr) (vs : List Value) (ns : List Int),
      Ground q loose [] XP w s₀ mg mb s₁.heap → YP w s₁.heap →
      s₁.heap.get? fa = some o → o.data = .func (docDef d.name d.params d.body d.scope pm cd doc) → s₁.heap.CodeRec cd d.name → mg d.name = some (.ref fa) →
      s₁.heap.get? a = some { cls := .type "list", data := .seq vs.toArray } → IntsAre vs ns → ns.length ≤ n → s₁.gens = #[] →
      codeAny (model l.prog w) callerA (.call (.ref fa) ⟨[.ref a], []⟩) (fun r s' => r = .ok (.ret (.bool true)) ∧ OldK s₁.heap s'.heap ∧ s'.os = s₁.os ∧ AllBare s'.gens) s₁) :
    WalkO q loose XP YP l.row.toRowW d [] (fun f vs => PySem.call f vs) := by
  intro w s₀ s₁ mg mb G Y fa o pm cd doc dV kV ho hd hcd hD hmg hg args vals as hpre hlay hrd hwl hlo
  obtain rfl : dV = .none := Dflts.none hD hdf
  obtain rfl : kV = .none := Dflts.noKw hD
  obtain ⟨a, vs, ns, rfl, rfl, hobj, hints, hlen⟩ := script_of hn hpre hwl
  refine enter_call (codeAny_mono (call w s₀ s₁ mg mb fa o pm cd doc a vs ns G Y ho (fd_plain hd) hcd hmg hobj hints hlen hg) fun r s' hq => ?_)
  obtain ⟨rfl, h2, h3, h4⟩ := hq
  exact ⟨.inl ⟨.bool true, .bool true, [], rfl, fun _ => rfl, .bool true, post_true l _, fun _ => ⟨List.Pairwise.nil, fun _ hm => (nomatch hm)⟩⟩, h2, h3, h4⟩
section
variable {prog : Program} {w : World} {A : Around} {E : Value → Shared → Prop} {s : Shared} {K : Frag}
end
end Att
namespace L2
open PySem PySem.Spec PyProof.Rows
theorem vals_ints : ∀ {vs : List Value} {ns : List Int}, IntsAre vs ns → Vals (ns.map V.int) vs
  | _, _, .nil => .nil
  | _, _, .cons n t h => .cons ⟨t, rfl⟩ (vals_ints h)
def Only (H : Hp) : Prop := ∀ b, H b = none ∨ ∃ o xs, H b = some (.frz o (.lst xs))
theorem law_call {P : Program} {w : World} {K : PySem.W.Frag} {mg mb : Str → Option Value} {CX : CXT} {k : Nat} {fa a : Addr} {fd : FuncData} {x : Str} {sp : Sp} {s₁ : Shared} {vs : List Value} {ns : List Int}
    (KX : K.In s₁.heap) (hns : s₁.heap.Ns mainGlobals mg) (hb : s₁.heap.Ns builtinsNs mb) (hbb : ∀ x : Str, x ≠ "__name__" → mb x = bootBuiltins x) (hlim : s₁.heap.NoLimit) (hg : s₁.gens = #[])
    (ha : s₁.heap.get? a = some { cls := .type "list", data := .seq vs.toArray }) (hi : IntsAre vs ns) (hl : ns.length ≤ sizeLine) (hr : Room k callerA)
    (F : ∀ base : Heap, K.In base → base.Ns mainGlobals mg → FnOk P w K mg base CX k fa fd [x] sp) (hbind : ∀ (s : Shared) (u : Value), BindsTo s fd ⟨[u], []⟩ [(x, u)])
    (hsp : ∀ H : Hp, Only H → SqL K H a (ns.map V.int) → sp [.ref a] H (fun v _ => v = .bl true) fun _ _ _ => False)
    (hCX : ∀ H e s', CX [] H s₁ (fun _ _ _ => False) e s' → False) :
    codeAny (model P w) callerA (.call (.ref fa) ⟨[.ref a], []⟩) (fun r s' => r = .ok (.ret (.bool true)) ∧ OldK s₁.heap s'.heap ∧ s'.os = s₁.os ∧ AllBare s'.gens) s₁ := by
  have rv := vals_ints hi
  have lenV := hi.length
  have core : ∀ H : Hp, Only H → SqL K H a (ns.map V.int) → HOk P w H s₁.heap → (∀ b, H b ≠ none → b = a) → (H a ≠ none → K.lookup a = none) →
      codeAny (model P w) callerA (.call (.ref fa) ⟨[.ref a], []⟩) (fun r s' => r = .ok (.ret (.bool true)) ∧ OldK s₁.heap s'.heap ∧ s'.os = s₁.os ∧ AllBare s'.gens) s₁ := by
    intro H hO hS hok hA hK
    have base_of : ∀ {b : Addr} {o : Obj}, s₁.heap.get? b = some o → H b = none → (hidT s₁.heap H).get? b = some o := fun e n => hidT_get e n
    have noA : ∀ {b : Addr} {o : Obj} {es : Array DictEntry} {ep : Nat}, s₁.heap.get? b = some o → o.data = .dict es ep → H b = none := fun {b o es ep} e d => by
      cases q : H b with
      | none => rfl
      | some u =>
        have e' : b = a := hA b (by rw [q]; simp)
        subst e'
        rw [ha] at e; cases e
        have d' : Data.seq vs.toArray _ = Data.dict es ep := d
        cases d'
    have nsK : ∀ {b : Addr} {m : Str → Option Value}, s₁.heap.Ns b m → (hidT s₁.heap H).Ns b m := fun {b m} ⟨o, es, ep, e, d, r⟩ => ⟨o, es, ep, base_of e (noA e d), d, r⟩
    have hKb : K.In (hidT s₁.heap H) := fun b o e => base_of (KX b o e) (by
      cases q : H b with
      | none => rfl
      | some u =>
        have e' : b = a := hA b (by rw [q]; simp)
        subst e'
        rw [hK (by rw [q]; simp)] at e; cases e)
    have hM : Mod K mg (hidT s₁.heap H) := ⟨hKb, nsK hns, ⟨mb, nsK hb, hbb⟩, let ⟨mc, h1, h2⟩ := hlim; ⟨mc, nsK h1, h2⟩⟩
    have e0 : Env0 P w K mg (hidT s₁.heap H) callerA [] s₁ H := ⟨rfl, hM, fun b o e => of_hidT e, Nat.le_of_eq (hidT_size _ _), trivial, fun b hb => absurd (show b ∈ ([] : List Addr) from hb) (by simp), hok, .of_eq hg⟩
    refine codeAny_mono ((F _ hKb (nsK hns)).run callerA [] s₁ H ⟨[.ref a], []⟩ [.ref a] [.ref a] _ _ hr e0 (hbind s₁ (.ref a)) (.cons rfl .nil) (hsp H hO hS)) fun r s' h => ?_
    cases r with
    | error e => exact (hCX H e s' h).elim
    | ok fl =>
      cases fl with
      | next => exact False.elim h
      | brk => exact False.elim h
      | cont => exact False.elim h
      | ret u =>
        obtain ⟨v, H', os, bare, un, hok', r', q⟩ := h
        have q' : v = .bl true := q
        subst q'
        obtain rfl : u = Value.bool true := r'
        refine ⟨rfl, OldK.of_keep fun b o e => ?_, os, bare⟩
        cases q : H b with
        | none => exact un.keep b o e q (by intro z; exact absurd (show b ∈ ([] : List Addr) from z) (by simp)) (by simp)
        | some u =>
          rcases hO b with z | ⟨ob, xs, z⟩
          · rw [q] at z; cases z
          · have z2 := un.frzs b ob _ z
            obtain ⟨e1, _⟩ := hok b _ z
            obtain ⟨e2, _⟩ := hok' b _ z2
            rw [e] at e1; cases e1
            exact e2
  cases hk : K.lookup a with
  | some o =>
    have e := KX a o hk
    rw [ha] at e
    cases e
    refine core (fun _ => none) (fun _ => .inl rfl) (.inr ⟨_, vs.toArray, _, hk, rfl, rfl, rfl, by rw [List.size_toArray, lenV]; exact hl, by simpa using rv⟩) (fun b u z => by have z' : (none : Option HO) = some u := z; cases z') (fun b z => absurd rfl z) fun z => absurd rfl z
  | none =>
    refine core (fun b => if b = a then some (.frz { cls := .type "list", data := .seq vs.toArray } (.lst (ns.map V.int))) else none) (fun b => ?_) (.inl (.inr ⟨{ cls := .type "list", data := .seq vs.toArray }, if_pos rfl⟩)) (fun b u z => ?_) (fun b z => ?_) fun _ => hk
    · by_cases hb : b = a
      · exact .inr ⟨_, _, if_pos hb⟩
      · exact .inl (if_neg hb)
    · by_cases hb : b = a
      · have z' := (if_pos hb).symm.trans z
        cases z'
        subst hb
        exact ⟨ha, by rw [List.length_map]; exact hl, vs, _, rv, ha⟩
      · have z' := (if_neg hb).symm.trans z
        cases z'
    · by_cases hb : b = a
      · exact hb
      · exact absurd (if_neg hb) z
end L2
namespace L2
open PySem PySem.Spec PyProof.Rows
abbrev KOf {K : PySem.W.Frag} {h : Heap} (_ : K.In h) : PySem.W.Frag := K
theorem walk_of {l : PySem.W.OpenLaw} {n k : Nat} {q : Program} {loose : List Str} {XP : (Str → Option Value) → Heap → Prop} {YP : World → Heap → Prop} {d : DefRec} {K : Params → PySem.W.Frag} {CX : World → CXT} {sp : World → Sp} {x : Str}
    (hn : l.most = some n) (hn2 : n ≤ sizeLine) (hdf : d.params.defaults = []) (hr : Room k callerA)
    (hY : ∀ (w : World) (h : Heap), YP w h → (K w.params).In h)
    (F : ∀ (w : World) (mg : Str → Option Value) (fa : Addr) (h : Heap), (K w.params).In h → h.Ns mainGlobals mg → mg d.name = some (.ref fa) →
      ∃ fd : FuncData, (∀ (s : Shared) (u : Value), BindsTo s fd ⟨[u], []⟩ [(x, u)]) ∧
        ∀ base : Heap, (K w.params).In base → base.Ns mainGlobals mg → FnOk l.prog w (K w.params) mg base (CX w) k fa fd [x] (sp w))
    (hsp : ∀ (w : World) (H : Hp) (a : Addr) (ns : List Int), ns.length ≤ n → Only H → SqL (K w.params) H a (ns.map V.int) → sp w [.ref a] H (fun v _ => v = .bl true) fun _ _ _ => False)
    (hCX : ∀ (w : World) (H : Hp) (s : Shared) (e : Value) (s' : Shared), CX w [] H s (fun _ _ _ => False) e s' → False) :
    PySem.W.WalkO q loose XP YP l.row.toRowW d [] (fun f vs => PySem.call f vs) := by
  refine Att.attach_call hn hdf fun w s₀ s₁ mg mb fa o pm cd doc a vs ns G Y ho hd hcd hmg hobj hints hlen hg => ?_
  have KX := hY w _ Y
  obtain ⟨fd, hb, hF⟩ := F w mg fa _ KX G.T.g hmg
  exact law_call KX G.T.g G.T.b G.T.builtins G.T.nolimit hg hobj hints (Nat.le_trans hlen hn2) hr hF hb (fun H hO hS => hsp w H a ns hlen hO hS) fun H e s' => hCX w H s₁ e s'
end L2
namespace L2
open PySem PySem.Spec PyProof.Rows
def inClass (s : Stmt) (j : Nat) : Stmt := match s with
  | .ClassDef _ _ _ body _ _ _ _ _ _ _ => body.getD j (.Pass ⟨0, 0, 0, 0⟩)
  | _ => .Pass ⟨0, 0, 0, 0⟩
def defArgs (s : Stmt) : Arguments := match s with
  | .FunctionDef _ a _ _ _ _ _ _ _ _ => a
  | _ => { posonlyargs := [], args := [], vararg := none, kwonlyargs := [], kw_defaults := [], kwarg := none, defaults := [] }
def defBody (s : Stmt) : List Stmt := match s with
  | .FunctionDef _ _ b _ _ _ _ _ _ _ => b
  | _ => []
def defScope (s : Stmt) : Scope := match s with
  | .FunctionDef _ _ _ _ _ _ sc _ _ _ => sc
  | _ => { kind := .function, names := [], isGenerator := false, isCoroutine := false }
abbrev CX0 : CXT := fun _ _ _ _ _ _ => False
abbrev E0 : XK := fun _ _ _ => False
theorem pass0 {X : Cx} : Passes CX0 X E0 := fun _ _ _ _ _ _ _ h => h.elim
structure Fun (K : PySem.W.Frag) (x qual : Str) (st : Stmt) (f : Addr) (fd : FuncData) : Prop where
  ex : ∃ (oc : Value) (od : Option Addr) (kV doc pm : Value) (an : Option Addr) (cdv ct : Value) (osl : Array (Option Value)),
    fd = PySem.W.fnOf x qual (defArgs st) (defBody st) (defScope st) .none kV doc pm an cdv ct ∧ K.lookup f = some ⟨oc, od, .func fd, osl⟩ ∧ PySem.W.codeIn K cdv qual = true
  kp : PySem.W.keepIn K (.ref f) = true
section
variable {P : Program} {w : World} {K : PySem.W.Frag} {mg : Str → Option Value} {base : Heap}
theorem Fun.ok {x qual : Str} {st : Stmt} {f : Addr} {fd : FuncData} {N ps : List Str} {k : Nat} {sp : Sp} (F : Fun K x qual st f fd) (S : FnScope N ps (defScope st)) (len : ∀ vs H Q E, sp vs H Q E → vs.length = ps.length)
    (hbody : ∀ (cdv : Value) (A : Around) (outer : List Env) (s : Shared) (H : Hp) (vs : List V) (Q : VK) (E : XK), Room k (A.deeper (envOfC qual (defScope st) s.heap.objs.size f cdv)) → sp vs H Q E →
      ∃ t, PSs (cxOf CX0 P w K mg base N qual (defScope st) f cdv A outer s H E).nox (defBody st) t ∧ t { nx := fun _ H' => Q .non H', rt := Q } (start N vs) H) : FnOk P w K mg base CX0 (k + 1) f fd ps sp := by
  obtain ⟨oc, od, kV, doc, pm, an, cdv, ct, osl, rfl, lk, hcd⟩ := F.ex
  refine fn_of lk hcd S len fun A outer s H vs Q E hr hsp => ?_
  obtain ⟨t, h, q⟩ := hbody cdv A outer s H vs Q E hr hsp
  exact ⟨t, h.nox, q⟩
theorem Fun.binds {x qual : Str} {st : Stmt} {f : Addr} {fd : FuncData} {ps : List Str} (F : Fun K x qual st f fd)
    (h : ∀ (kV doc pm : Value) (an : Option Addr) (cdv ct : Value) (us : List Value), us.length = ps.length → bindArgs (PySem.W.fnOf x qual (defArgs st) (defBody st) (defScope st) .none kV doc pm an cdv ct) ⟨us, []⟩ = pure (ps.zip us)) : Binds K fd ps [] := by
  obtain ⟨oc, od, kV, doc, pm, an, cdv, ct, osl, rfl, lk, hcd⟩ := F.ex
  exact .all (h kV doc pm an cdv ct)
theorem fun_mk {x qual : Str} {st : Stmt} {f : Addr} {oc : Value} {od an : Option Addr} {osl : Array (Option Value)} {kV doc pm cdv ct : Value} (l : K.lookup f = some ⟨oc, od, .func (PySem.W.fnOf x qual (defArgs st) (defBody st) (defScope st) .none kV doc pm an cdv ct), osl⟩)
    (c : PySem.W.codeIn K cdv qual = true) (k : PySem.W.keepIn K (.ref f) = true) : Fun K x qual st f (PySem.W.fnOf x qual (defArgs st) (defBody st) (defScope st) .none kV doc pm an cdv ct) := ⟨⟨oc, od, kV, doc, pm, an, cdv, ct, osl, rfl, l, c⟩, k⟩
end
theorem hu_of {A : Around} {k : Nat} (hr : Room k A) : A.units + 1 < cLine := Nat.lt_of_le_of_lt (Nat.add_le_add_left (by decide : 1 ≤ 64) _) hr.units
theorem small1000 {n : Nat} (h : n ≤ 1000) : n < sizeLine := Nat.lt_of_le_of_lt h (by decide)
section
variable {X : Cx}
theorem pv (i : Nat) {x : Str} {pos : Pos} (hN : X.N[i]? = some x := by rfl) (hv : Vis X.env.scope x := by first | exact Or.inl rfl | exact Or.inr (Or.inl rfl) | exact Or.inr (Or.inr rfl)) (hd : (x == ("__debug__" : Str)) = false := by decide)
    (hcd : (x == ("__classdict__" : Str)) = false := by decide) : PE X (.Name x pos) (tVar i) := pe_var hN hv hd hcd
end
theorem iteF {A B : Prop} (h : B) : if false = true then A else B := by
  rw [if_neg Bool.false_ne_true]
  exact h
theorem iteT {A B : Prop} (h : A) : if true = true then A else B := by
  rw [if_pos rfl]
  exact h
theorem ite2 {c A B : Prop} [Decidable c] (h1 : c → A) (h2 : ¬ c → B) : if c then A else B := by
  by_cases h : c
  · rw [if_pos h]
    exact h1 h
  · rw [if_neg h]
    exact h2 h
theorem iteNS {c A B : Prop} [Decidable c] (hc : c) (h : B) : if (!decide c) = true then A else B := by
  rw [decide_eq_true hc]
  exact iteF h
def Same (H H' : Hp) : Prop := ∀ b o, H b = some o → H' b = some o
theorem Same.refl (H : Hp) : Same H H := fun _ _ h => h
theorem Same.trans {H H1 H2 : Hp} (a : Same H H1) (b : Same H1 H2) : Same H H2 := fun c o h => b c o (a c o h)
theorem Same.free {H H' : Hp} (e : Same H H') {l : Addr} (h : H' l = Option.none) : H l = Option.none := by
  cases q : H l with
  | none => rfl
  | some o =>
    rw [e l o q] at h
    cases h
end L2
set_option Elab.async false
set_option linter.all false
set_option maxRecDepth 100000
set_option maxHeartbeats 4000000
namespace L2
open PySem PySem.Spec PyProof.Rows
section
variable {X : Cx} {pins : List (Addr × Obj)} {σ : List (Option V)} {H : Hp} {s : Shared} {h' : Heap}
end
section
variable {X : Cx}
theorem call_isinst : CallR X (.builtin "isinstance") (fun xs H Q => ∃ x t T b, xs = [x, .ty T] ∧ TyOf X.K H x t ∧ PySem.W.kitOne X.K t (.type T) = some b ∧ Q (.bl b) H) := by
  intro pins s σ H xs us Q I r h
  obtain ⟨x, t, T, b, rfl, ty, e, q⟩ := h
  obtain ⟨u, w', rfl, rx, ry⟩ := vals2 r
  cases (show w' = Value.type T from ry)
  exact isinst_ok I rx ty e fun tk => ⟨.bl b, H, I.tok _, rfl, q⟩
theorem call_str_str : CallR X (.type "str") (fun xs H Q => ∃ x, xs = [.str x] ∧ Q (.str x) H) := by
  intro pins s σ H xs us Q I r h
  obtain ⟨x, rfl, q⟩ := h
  obtain ⟨u, rfl, t, rfl⟩ := vals1 r
  exact PySem.P.str_of_str ⟨.str x, H, I, ⟨_, rfl⟩, q⟩
def rCatA (K : PySem.W.Frag) : R2 := fun x y H Q => ∃ a b xs ys, x = .ref a ∧ y = .ref b ∧ SqT K H a xs ∧ SqT K H b ys ∧ xs.length + ys.length ≤ sizeLine ∧
  (xs = [] → Q (.ref b) H) ∧ (xs ≠ [] → ys = [] → Q (.ref a) H) ∧ (xs ≠ [] → ys ≠ [] → ∀ p, H p = none → Q (.ref p) (upd H p (.tup (xs ++ ys))))
theorem op_catA : OpR X (binaryOp .Add) (rCatA X.K) := by
  intro pins s σ H x y v u Q I rx ry h
  obtain ⟨a, b, xs, ys, rfl, rfl, ha, hb, hz, q0, q1, q2⟩ := h
  cases rx
  cases ry
  by_cases hx : xs = []
  · obtain ⟨its, r1, p1, _⟩ := I.tuple ha
    obtain ⟨its2, r2, p2, _⟩ := I.tuple hb
    obtain ⟨⟨cls, dd, data, sl⟩, ho, hc, n, hd⟩ := id p1
    obtain ⟨⟨cls2, dd2, data2, sl2⟩, ho2, hc2, n2, hd2⟩ := id p2
    simp only at hc hd hc2 hd2
    subst hc hd hc2 hd2
    have hv : its = [] := r1.nil_iff.mpr hx
    exact concat_meets ⟨_, ho, rfl⟩ ⟨_, ho2, rfl⟩ noFill_tuple_add seq_tuple_add PySem.F.slot_tuple_add PySem.F.entry_tuple_add (PySem.F.args_tuple_add_2 _ _)
      (tuple_addW0 a b its.toArray its2.toArray n n2 dd dd2 sl sl2 (by simp [hv])) ⟨ho, ho2, ⟨.ref b, H, I, rfl, q0 hx⟩⟩
  · exact op_catT pins s σ H (.ref a) (.ref b) (.ref a) (.ref b) Q I rfl rfl ⟨a, b, xs, ys, rfl, rfl, ha, hb, hx, hz, q1 hx, q2 hx⟩
theorem eqV_refl : ∀ {x : V}, flatV x = true → eqV x x = true
  | .non, _ => by rfl
  | .bl b, _ => by simp [eqV]
  | .int i, _ => by simp [eqV]
  | .str z, _ => by simp [eqV]
  | .byt _, h => by first | exact absurd (show false = true from h) Bool.false_ne_true | simp [eqV]
  | .flt _, h => by first | exact absurd (show false = true from h) Bool.false_ne_true | simp [eqV]
  | .ref _, h => by first | exact absurd (show false = true from h) Bool.false_ne_true | simp [eqV]
  | .ty _, h => by first | exact absurd (show false = true from h) Bool.false_ne_true | simp [eqV]
theorem same_items {A : Around} {s : Shared} {xs : List V} {its its2 : List Value} (r1 : Vals xs its) (r2 : Vals xs its2) (hf : xs.all flatV = true) :
    ∀ j (h1 : j < its.toArray.size) (h2 : j < its2.toArray.size), SeqAt.EqAt A s its.toArray[j] its2.toArray[j] true := by
  intro j h1 h2
  have hl := r1.length
  have hj : j < xs.length := by simpa [hl] using h1
  have hx : xs[j]? = some xs[j] := by simp [hj]
  obtain ⟨u, hu, ru⟩ := r1.get hx
  obtain ⟨u2, hu2, ru2⟩ := r2.get hx
  have fx : flatV xs[j] = true := List.all_eq_true.mp hf _ (List.getElem_mem hj)
  have e1 : its.toArray[j] = u := by
    have : its[j]? = some its.toArray[j] := by simp at h1; simp [h1]
    rw [hu] at this; exact (Option.some.inj this).symm
  have e2 : its2.toArray[j] = u2 := by
    have : its2[j]? = some its2.toArray[j] := by simp at h2; simp [h2]
    rw [hu2] at this; exact (Option.some.inj this).symm
  rw [e1, e2]
  have := eqAt_V (A := A) (s := s) ru ru2 fx fx
  rw [eqV_refl fx] at this
  exact this
end
end L2
namespace ET
open PySem PySem.Spec
open PySem.AutoSeq1 (wpAny_loadPart')
section
variable {prog : Program} {w : World} {A : Around} {E : Value → Shared → Prop} {s : Shared}
end
end ET
namespace L2
open PySem PySem.Spec PyProof.Rows
section
variable {X : Cx} {elts : List Expr} {k : Nat} {tpos : Pos}
end
end L2
set_option Elab.async false
set_option linter.all false
set_option maxRecDepth 100000
set_option maxHeartbeats 4000000
namespace L2
open PySem PySem.Spec PyProof.Rows
structure Cl (P : Program) (w : World) (K : PySem.W.Frag) (mg : Str → Option Value) (base : Heap) (k : Nat) (x : Str) (ps : List Str) (sp : Sp) : Prop where
  ex : ∃ f fd, FnOk P w K mg base CX0 k f fd ps sp ∧ mg x = some (.ref f) ∧ PySem.W.keepIn K (.ref f) = true ∧ Binds K fd ps []
theorem pe_fn {X : Cx} {j k : Nat} {x : Str} {ps : List Str} {sp : Sp} {e : Expr} {es : List Expr} {t : TA} {p pos : Pos} (C : Cl X.prog X.w X.K X.mg X.base j x ps sp) (hr : Room k X.A) (hg : Gl X x) (ha : PA X (e :: es) t) (hjk : j ≤ k := by decide)
    (hdb : (x == ("__debug__" : Str)) = false := by decide) (he : starEach (e :: es) X.env = (false, eval e X.env) :: starEach es X.env := by rfl) (hpl : (backTo pos (starEach es X.env)).any (·.1) = false := by rfl) :
    PE X (.Call (.Name x p) (e :: es) [] pos) (tCall sp [] E0 t) := by
  obtain ⟨f, fd, F, hm, hk, hb⟩ := C.ex
  exact pe_call F (hr.mono hjk) hg hm hk hb .nil pass0 ha hdb he hpl
def HasDef (K : PySem.W.Frag) (mg : Str → Option Value) (x : Str) (st : Stmt) : Prop := ∃ f fd, Fun K x x st f fd ∧ mg x = some (.ref f)
theorem hasDef_mk {K : PySem.W.Frag} {mg : Str → Option Value} {h : Heap} {x : Str} {st : Stmt} {f : Addr} {oc : Value} {od an : Option Addr} {osl : Array (Option Value)} {kV doc pm cdv ct : Value} (X : K.In h) (G : h.Ns mainGlobals mg)
    (a : PySem.W.nsIn K mainGlobals x = some (some (.ref f))) (l : K.lookup f = some ⟨oc, od, .func (PySem.W.fnOf x x (defArgs st) (defBody st) (defScope st) .none kV doc pm an cdv ct), osl⟩)
    (c : PySem.W.codeIn K cdv x = true) (k : PySem.W.keepIn K (.ref f) = true) : HasDef K mg x st :=
  ⟨f, _, fun_mk l c k, PySem.W.mg_of X G a⟩
theorem Cl.of {P : Program} {w : World} {K : PySem.W.Frag} {mg : Str → Option Value} {base : Heap} {x : Str} {st : Stmt} {N ps : List Str} {k : Nat} {sp : Sp} (T : HasDef K mg x st) (S : FnScope N ps (defScope st)) (len : ∀ vs H Q E, sp vs H Q E → vs.length = ps.length)
    (hb : ∀ (kV doc pm : Value) (an : Option Addr) (cdv ct : Value) (us : List Value), us.length = ps.length → bindArgs (PySem.W.fnOf x x (defArgs st) (defBody st) (defScope st) .none kV doc pm an cdv ct) ⟨us, []⟩ = pure (ps.zip us))
    (hbody : ∀ (f : Addr) (cdv : Value) (A : Around) (outer : List Env) (s : Shared) (H : Hp) (vs : List V) (Q : VK) (E : XK), Room k (A.deeper (envOfC x (defScope st) s.heap.objs.size f cdv)) → sp vs H Q E →
      ∃ t, PSs (cxOf CX0 P w K mg base N x (defScope st) f cdv A outer s H E).nox (defBody st) t ∧ t { nx := fun _ H' => Q .non H', rt := Q } (start N vs) H) : Cl P w K mg base (k + 1) x ps sp := by
  obtain ⟨f, fd, F, m⟩ := T
  exact ⟨f, fd, F.ok S len (fun cdv A outer s H vs Q E => hbody f cdv A outer s H vs Q E), m, F.kp, F.binds hb⟩
def Tups (H H' : Hp) : Prop := ∀ b xs, H b = some (.tup xs) → H' b = some (.tup xs)
section
variable {H H1 H2 : Hp} {l p : Addr} {o : HO} {xs ys : List V}
theorem Same.tups (e : Same H H1) : Tups H H1 := fun b xs q => e b _ q
theorem Tups.lst (h : H l = some (.lst xs)) : Tups H (upd H l (.lst ys)) := fun b zs q => by
  rw [upd_ne (ne_of q h (by intro z; cases z))]; exact q
theorem Tups.new (h : H p = none) : Tups H (upd H p o) := fun b zs q => by
  rw [upd_ne (ne_of_none q h)]; exact q
theorem Same.put (s : Same H H1) (h : H l = none) : Same H (upd H1 l o) := fun b u q => by
  rw [upd_ne (ne_of_none q h)]; exact s b u q
theorem Same.new (s : Same H H1) (h : H1 p = none) : Same H (upd H1 p o) := s.put (s.free h)
theorem upd_keep {u : HO} (h : H l = some u) (hp : H p = none) : upd H p o l = some u := by
  rw [upd_ne (ne_of_none h hp)]; exact h
end
theorem atI_getD {α : Type} (xs : List α) (d : α) {i : Int} (h0 : 0 ≤ i) (h1 : i < (xs.length : Int)) : atI xs i = some (xs.getD i.toNat d) := by
  have e : i = ((i.toNat : Nat) : Int) := by omega
  have hl : i.toNat < xs.length := by omega
  have hx : xs[i.toNat]? = some (xs.getD i.toNat d) := by
    rw [List.getD_eq_getElem?_getD]
    simp [hl]
  have := atI_nat hx
  rw [← e] at this
  exact this
theorem atI_mem {α : Type} (xs : List α) {i : Int} (h0 : 0 ≤ i) (h1 : i < (xs.length : Int)) : ∃ v, v ∈ xs ∧ atI xs i = some v := by
  have e : i = ((i.toNat : Nat) : Int) := by omega
  have hl : i.toNat < xs.length := by omega
  have hx : xs[i.toNat]? = some xs[i.toNat] := by simp [hl]
  refine ⟨xs[i.toNat], List.getElem_mem hl, ?_⟩
  have := atI_nat hx
  rw [← e] at this
  exact this
theorem atI_menu (ys : List Str) {i : Int} (h0 : 0 ≤ i) (h1 : i < (ys.length : Int)) : ∃ y, y ∈ ys ∧ atI (ys.map V.str) i = some (.str y) := by
  obtain ⟨v, hv, e⟩ := atI_mem (ys.map V.str) h0 (by simpa using h1)
  obtain ⟨y, hy, rfl⟩ := List.mem_map.mp hv
  exact ⟨y, hy, e⟩
theorem atI_map {α : Type} (f : α → V) (xs : List α) (d : α) {i : Int} (h0 : 0 ≤ i) (h1 : i < (xs.length : Int)) : atI (xs.map f) i = some (f (xs.getD i.toNat d)) := by
  have := atI_getD (xs.map f) (f d) h0 (by simpa using h1)
  rw [this, List.getD_eq_getElem?_getD, List.getElem?_map, List.getD_eq_getElem?_getD]
  have hl : i.toNat < xs.length := by omega
  simp [hl]
theorem iteSE {x : Str} {A B : Prop} (h : A) : if decide (V.str x = V.str x) = true then A else B := by
  rw [if_pos (decide_eq_true rfl)]; exact h
theorem iteSN {x y : Str} {A B : Prop} (e : ¬ x = y) (h : B) : if decide (V.str x = V.str y) = true then A else B := by
  rw [if_neg (by rw [decide_eq_false (fun q => e (V.str.inj q))]; exact Bool.false_ne_true)]; exact h
theorem ite2I {i j : Int} {A B : Prop} (h1 : i = j → A) (h2 : ¬ i = j → B) : if decide (V.int i = V.int j) = true then A else B :=
  ite2 (fun h => h1 (V.int.inj (of_decide_eq_true h))) fun h => h2 fun e => h (decide_eq_true (congrArg V.int e))
theorem iteDP {p : Prop} [Decidable p] {A B : Prop} (hp : p) (h : A) : if decide p = true then A else B := by
  rw [if_pos (decide_eq_true hp)]; exact h
theorem iteDN {p : Prop} [Decidable p] {A B : Prop} (hp : ¬ p) (h : B) : if decide p = true then A else B := by
  rw [if_neg (by rw [decide_eq_false hp]; exact Bool.false_ne_true)]; exact h
theorem kit_same (K : PySem.W.Frag) (T : String) : PySem.W.kitOne K (.type T) (.type T) = some true := by
  unfold PySem.W.kitOne
  rw [if_pos (by simp)]
def isLet (c : Nat) : Bool := decide (97 ≤ c) && decide (c ≤ 122)
def isFig (c : Nat) : Bool := decide (48 ≤ c) && decide (c ≤ 57)
def isSg (c : Nat) : Bool := isLet c || isFig c
def isNm : List Nat → Bool
  | [] => false
  | c :: r => isLet c && r.all isSg && decide (r.length ≤ 7)
def NameOk (x : Str) : Prop := isNm x.cps.toList = true
instance (x : Str) : Decidable (NameOk x) := inferInstanceAs (Decidable (_ = true))
theorem NameOk.len {x : Str} (h : NameOk x) : 1 ≤ x.length ∧ x.length ≤ 8 := by
  unfold NameOk at h
  obtain ⟨⟨l⟩⟩ := x
  cases l with
  | nil => exact absurd (show false = true from h) Bool.false_ne_true
  | cons c r =>
    have h' : (isLet c && r.all isSg && decide (r.length ≤ 7)) = true := h
    simp only [Bool.and_eq_true, decide_eq_true_eq] at h'
    show 1 ≤ (Array.mk (c :: r)).size ∧ (Array.mk (c :: r)).size ≤ 8
    simp only [List.size_toArray, List.length_cons]
    omega
inductive Th where
  | num (n : Int)
  | nam (x : Str)
def thV : Th → V
  | .num n => .int n
  | .nam x => .str x
def ThOk : Th → Prop
  | .num n => 0 ≤ n ∧ n < 10 ^ 60
  | .nam x => NameOk x
def TermAt (H : Hp) (v : V) (t : Int × Th) : Prop := ∃ p, v = .ref p ∧ H p = some (.tup [.int t.1, thV t.2]) ∧ ThOk t.2
abbrev Terms (H : Hp) : List V → List (Int × Th) → Prop := Paired (TermAt H)
theorem Paired.get? {α β : Type} {F : α → β → Prop} : ∀ {xs : List α} {ys : List β} {i : Nat} {x : α}, Paired F xs ys → xs[i]? = some x → ∃ y, ys[i]? = some y ∧ F x y
  | _, _, _, _, .nil, e => by simp at e
  | _, _, 0, _, .cons r _, e => by simp at e; subst e; exact ⟨_, rfl, r⟩
  | _, _, i + 1, x, .cons _ t, e => by
    obtain ⟨u, h1, h2⟩ := Paired.get? (i := i) (x := x) t (by simpa using e)
    exact ⟨u, by simpa using h1, h2⟩
theorem TermAt.mono {H H' : Hp} (s : Tups H H') {v : V} {t : Int × Th} (h : TermAt H v t) : TermAt H' v t := by
  obtain ⟨p, e, h, o⟩ := h
  exact ⟨p, e, s p _ h, o⟩
theorem Terms.mono {H H' : Hp} (s : Tups H H') {vs : List V} {ts : List (Int × Th)} (h : Terms H vs ts) : Terms H' vs ts := Paired.mapP h fun _ _ q => q.mono s
structure TermsAt (H : Hp) (t : Addr) (ts : List (Int × Th)) : Prop where
  ex : ∃ vs, H t = some (.tup vs) ∧ Terms H vs ts
  lo : 1 ≤ ts.length
  hi : ts.length ≤ 6
theorem TermsAt.mono {H H' : Hp} (s : Tups H H') {t : Addr} {ts : List (Int × Th)} (h : TermsAt H t ts) : TermsAt H' t ts := by
  obtain ⟨⟨vs, h1, h2⟩, lo, hi⟩ := h
  exact ⟨⟨vs, s t _ h1, h2.mono s⟩, lo, hi⟩
theorem take_succ_get {α : Type} {l : List α} {i : Nat} {x : α} (h : l[i]? = some x) : l.take (i + 1) = l.take i ++ [x] := by
  rw [List.take_succ, h]; rfl
end L2
set_option Elab.async false
set_option linter.all false
set_option maxRecDepth 100000
set_option maxHeartbeats 4000000
namespace L2
open PySem PySem.Spec PyProof.Rows
theorem strsAre_of {ys : List Str} : ∀ {us : List Value}, Vals (ys.map V.str) us → StrsAre us ys := by
  induction ys with
  | nil => intro us r; cases r; exact .nil
  | cons y r ih =>
    intro us h
    cases h with
    | cons h1 h2 =>
      obtain ⟨t, rfl⟩ := h1
      exact .cons y t (ih h2)
theorem vals_strs : ∀ (l : List (Str × Tok)), Vals ((l.map (·.1)).map V.str) (strValues l)
  | [] => .nil
  | (x, t) :: r => .cons ⟨t, rfl⟩ (vals_strs r)
section
variable {X : Cx}
theorem mt_join : MtR X "str.join" (fun x vs H Q => ∃ sep p ys, x = .str sep ∧ vs = [.ref p] ∧ (SqT X.K H p (ys.map V.str) ∨ SqL X.K H p (ys.map V.str)) ∧ sep.length ≤ 16 ∧ (ys.map (·.length)).sum + ys.length ≤ 1048576 ∧ Q (.str (Str.join sep ys)) H) := by
  intro pins s σ H x xs v us Q I rx rs h
  obtain ⟨sep, p, ys, rfl, rfl, hq, hs, hw, q⟩ := h
  obtain ⟨t, rfl⟩ := rx
  obtain ⟨u, rfl, ru⟩ := vals1 rs
  cases ru
  rcases hq with hq | hq
  · obtain ⟨its, r', pl, hz⟩ := I.tuple hq
    exact join_tupleW pl (strsAre_of r') hs hw fun t' k => ⟨.str (Txt.join sep ys), H, I.tok _, ⟨_, rfl⟩, by rw [show Txt.join sep ys = Str.join sep ys from StrLaws.glued_eq_join sep ys]; exact q⟩
  · obtain ⟨its, r', pl, hz⟩ := I.list hq
    exact join_listW pl.isList (strsAre_of r') hs hw fun t' k => ⟨.str (Txt.join sep ys), H, I.tok _, ⟨_, rfl⟩, by rw [show Txt.join sep ys = Str.join sep ys from StrLaws.glued_eq_join sep ys]; exact q⟩
open Builtin Builtin.Str in
theorem split1D {prog : Program} {w : World} {A : Around} {E : Value → Shared → Prop} {s : Shared} {x : Str} {t : Tok} {Q : Value → Shared → Prop} {y : Str} {u : Tok} (hy : (y.length == 0) = false)
    (hq : ∀ (l : List (Str × Tok)) (n k : Nat), l.map (·.1) = Txt.split x y → Q (.ref s.heap.objs.size) { s with heap := s.heap.push { cls := .type "list", data := .seq (strValues l).toArray n }, toks := k })
    (hsz : x.length ≤ sizeLine) (hsz2 : (partsBetween x (occurrences x y 0 x.length (x.length + 1)) y.length).length ≤ sizeLine) :
    wpAny (model prog w) A (call (.builtin "str.split") [.str x t, .str y u]) Q E s := by
  cases h1 : (decide (x.length < y.length) || decide (strKind x < strKind y))
  · cases hf : (occurrences x y 0 x.length (x.length + 1)).isEmpty
    · refine call_meets F.slot_str_split (typeIs_str _ _ _) F.entry_str_split (F.args_str_split_2 _ _) (meets_str_split_sep x y t u h1 hy hf hsz hsz2) ?_
      show wants Q E _ { s with toks := _, heap := s.heap.push { cls := .type "list", data := .seq (strsFrom s.toks (partsBetween x (occurrences x y 0 x.length (x.length + 1)) y.length)).toArray } }
      rw [strsFrom_eq]
      exact hq (numbered s.toks _) _ _ ((numbered_texts _ _).trans ((if_neg (ne_true_of_eq_false h1)).trans (if_neg (ne_true_of_eq_false hf))).symm)
    · exact call_meets F.slot_str_split (typeIs_str _ _ _) F.entry_str_split (F.args_str_split_2 _ _) (meets_str_split_not_found x y t u h1 hy hf)
        (hq [(x, t)] _ _ ((if_neg (ne_true_of_eq_false h1)).trans (if_pos hf)).symm)
  · exact call_meets F.slot_str_split (typeIs_str _ _ _) F.entry_str_split (F.args_str_split_2 _ _) (meets_str_split_cannot_occur x y t u h1)
      (hq [(x, t)] _ _ (if_pos h1).symm)
open Builtin Builtin.Str in
theorem parts_le (x y : Str) : (partsBetween x (occurrences x y 0 x.length (x.length + 1)) y.length).length ≤ x.length + 2 := by
  rw [len_partsBetween]
  have := StrLaws.occ_length_le x y 0 x.length (x.length + 1)
  omega
theorem mt_split : MtR X "str.split" (fun x vs H Q => ∃ z y, x = .str z ∧ vs = [.str y] ∧ (y.length == 0) = false ∧ z.length ≤ 100000 ∧ ∀ l, H l = none → Q (.ref l) (upd H l (.lst ((Txt.split z y).map V.str)))) := by
  intro pins s σ H x xs v us Q I rx rs h
  obtain ⟨z, y, rfl, rfl, hy, hz, q⟩ := h
  obtain ⟨t, rfl⟩ := rx
  obtain ⟨u, rfl, ru⟩ := vals1 rs
  obtain ⟨t', rfl⟩ := ru
  have hs : sizeLine = 16777216 := sizeLine_eq
  have hp := parts_le z y
  have hn : H s.heap.objs.size = none := I.hok.fresh (Nat.le_refl _)
  refine split1D hy (fun l n k e => ?_) (by omega) (by omega)
  refine ⟨.ref s.heap.objs.size, _, I.laid (fun b o e => Heap.get?_push_of_some _ e) (Nat.le_refl _) ?_, rfl, q _ hn⟩
  have hl := split_le z y
  refine ⟨by rw [List.length_map]; omega, strValues l, n, ?_, Heap.get?_push_size _ rfl⟩
  rw [← e]
  exact vals_strs l
end
theorem cut_inj {c : Nat} : ∀ {a b u v : List Nat}, c ∉ a → c ∉ b → a ++ c :: u = b ++ c :: v → a = b ∧ u = v
  | [], [], u, v, _, _, h => by simp at h; exact ⟨rfl, h⟩
  | [], d :: b, u, v, _, hb, h => by
    simp at h
    exact absurd (by rw [h.1]; exact List.mem_cons_self) hb
  | x :: a, [], u, v, ha, _, h => by
    simp at h
    exact absurd (by rw [h.1]; exact List.mem_cons_self) ha
  | x :: a, d :: b, u, v, ha, hb, h => by
    simp at h
    obtain ⟨e1, e2⟩ := cut_inj (a := a) (b := b) (fun z => ha (List.mem_cons_of_mem _ z)) (fun z => hb (List.mem_cons_of_mem _ z)) h.2
    exact ⟨by rw [h.1, e1], e2⟩
theorem str_ext {x y : Str} (h : x.cps.toList = y.cps.toList) : x = y := by
  obtain ⟨⟨a⟩⟩ := x
  obtain ⟨⟨b⟩⟩ := y
  have h' : a = b := h
  rw [h']
theorem glue_list (x : Str) (c : Nat) (r : Str) : (x ++ (⟨#[c]⟩ : Str) ++ r).cps.toList = x.cps.toList ++ c :: r.cps.toList := by
  show (x.cps ++ #[c] ++ r.cps).toList = _
  simp
theorem join_inj {c : Nat} : ∀ {as bs : List Str}, as ≠ [] → bs ≠ [] → (∀ a ∈ as, c ∉ a.cps.toList) → (∀ b ∈ bs, c ∉ b.cps.toList) → Str.join ⟨#[c]⟩ as = Str.join ⟨#[c]⟩ bs → as = bs
  | [], _, h, _, _, _, _ => absurd rfl h
  | _, [], _, h, _, _, _ => absurd rfl h
  | [a], [b], _, _, _, _, h => by
    have h' : a = b := h
    rw [h']
  | [a], b :: b2 :: r, _, _, ha, _, h => by
    have h' : a = b ++ (⟨#[c]⟩ : Str) ++ Str.join ⟨#[c]⟩ (b2 :: r) := h
    have := ha a (List.mem_singleton.mpr rfl)
    rw [h', glue_list] at this
    exact absurd (by simp) this
  | a :: a2 :: r, [b], _, _, _, hb, h => by
    have h' : a ++ (⟨#[c]⟩ : Str) ++ Str.join ⟨#[c]⟩ (a2 :: r) = b := h
    have := hb b (List.mem_singleton.mpr rfl)
    rw [← h', glue_list] at this
    exact absurd (by simp) this
  | a :: a2 :: r, b :: b2 :: q, _, _, ha, hb, h => by
    have h' : a ++ (⟨#[c]⟩ : Str) ++ Str.join ⟨#[c]⟩ (a2 :: r) = b ++ (⟨#[c]⟩ : Str) ++ Str.join ⟨#[c]⟩ (b2 :: q) := h
    have h2 := congrArg (fun z : Str => z.cps.toList) h'
    simp only [glue_list] at h2
    obtain ⟨e1, e2⟩ := cut_inj (ha a List.mem_cons_self) (hb b List.mem_cons_self) h2
    have e3 := join_inj (as := a2 :: r) (bs := b2 :: q) (by simp) (by simp) (fun z hz => ha z (List.mem_cons_of_mem _ hz)) (fun z hz => hb z (List.mem_cons_of_mem _ hz)) (str_ext e2)
    rw [str_ext e1, e3]
theorem split_join {c : Nat} {ws : List Str} (h : ws ≠ []) (hf : ∀ a ∈ ws, c ∉ a.cps.toList) : Txt.split (Str.join ⟨#[c]⟩ ws) ⟨#[c]⟩ = ws := by
  have hp := split_pos (Str.join ⟨#[c]⟩ ws) ⟨#[c]⟩
  refine join_inj (by intro z; rw [z] at hp; simp at hp) h (StrLaws.split_free _ c) hf ?_
  exact StrLaws.join_split _ _
structure WordOk (x : Str) : Prop where
  nb : 32 ∉ x.cps.toList
  len : x.length ≤ 61
instance (x : Str) : Decidable (WordOk x) := decidable_of_iff (32 ∉ x.cps.toList ∧ x.length ≤ 61) ⟨fun h => ⟨h.1, h.2⟩, fun h => ⟨h.nb, h.len⟩⟩
theorem isSg_ne {c : Nat} (h : isSg c = true) : c ≠ 32 := by
  rintro rfl
  exact absurd h (by decide)
theorem NameOk.signs {x : Str} (h : NameOk x) : ∀ c ∈ x.cps.toList, isSg c = true := by
  unfold NameOk at h
  intro c hc
  cases e : x.cps.toList with
  | nil => rw [e] at hc; simp at hc
  | cons d r =>
    rw [e] at h hc
    have h' : (isLet d && r.all isSg && decide (r.length ≤ 7)) = true := h
    simp only [Bool.and_eq_true, decide_eq_true_eq, List.all_eq_true] at h'
    rcases List.mem_cons.mp hc with z | z
    · rw [z]; unfold isSg; rw [h'.1.1]; rfl
    · exact h'.1.2 c z
theorem NameOk.word {x : Str} (h : NameOk x) : WordOk x := ⟨fun z => isSg_ne (h.signs 32 z) rfl, by have := h.len; omega⟩
def thS : Th → Str
  | .num n => Str.ofString (toString n)
  | .nam x => x
theorem digit_range (m : Nat) : ∀ c ∈ (Nat.toDigits 10 m).map Char.toNat, 48 ≤ c ∧ c ≤ 57 := by
  intro c hc
  obtain ⟨d, hd, rfl⟩ := List.mem_map.mp hc
  have := Nat.isDigit_of_mem_toDigits (by decide) (by decide) hd
  have h2 : d.isDigit = true := this
  simp only [Char.isDigit, Bool.and_eq_true, decide_eq_true_eq] at h2
  exact ⟨h2.1, h2.2⟩
theorem num_text {n : Int} (h0 : 0 ≤ n) (h1 : n < 10 ^ 60) : (Str.ofString (toString n)).cps.toList = (Nat.toDigits 10 n.toNat).map Char.toNat ∧ (Nat.toDigits 10 n.toNat).length ≤ 60 := by
  have e : n = ((n.toNat : Nat) : Int) := by omega
  constructor
  · have h := text_ofNat n.toNat
    rw [show Int.ofNat n.toNat = n from e.symm] at h
    rw [h]
  · exact digits10_le (by decide) (by omega)
theorem ThOk.word {t : Th} (h : ThOk t) : WordOk (thS t) := by
  cases t with
  | nam x => exact NameOk.word h
  | num n =>
    obtain ⟨e, hl⟩ := num_text h.1 h.2
    refine ⟨fun z => ?_, ?_⟩
    · have z' : 32 ∈ (Str.ofString (toString n)).cps.toList := z
      rw [e] at z'
      have := digit_range _ 32 z'
      omega
    · have h2 : (Str.ofString (toString n)).length = ((Str.ofString (toString n)).cps.toList).length := by simp [Str.length]
      show (Str.ofString (toString n)).length ≤ 61
      rw [h2, e, List.length_map]
      omega
def sgS (s : Int) : Str := if s = 1 then "+" else "-"
theorem sgS_ok (s : Int) : WordOk (sgS s) := by
  unfold sgS
  split
  · decide +kernel
  · decide +kernel
def tailW : List (Int × Th) → List Str
  | [] => []
  | (s, t) :: r => sgS s :: thS t :: tailW r
def sumW : List (Int × Th) → List Str
  | [] => []
  | (_, t) :: r => thS t :: tailW r
theorem tailW_snoc (s : Int) (t : Th) : ∀ ts, tailW (ts ++ [(s, t)]) = tailW ts ++ [sgS s, thS t]
  | [] => rfl
  | (a, b) :: r => by
    show sgS a :: thS b :: tailW (r ++ [(s, t)]) = _
    rw [tailW_snoc s t r]
    rfl
theorem sumW_snoc (s : Int) (t : Th) {ts : List (Int × Th)} (h : ts ≠ []) : sumW (ts ++ [(s, t)]) = sumW ts ++ [sgS s, thS t] := by
  cases ts with
  | nil => exact absurd rfl h
  | cons p r =>
    show thS p.2 :: tailW (r ++ [(s, t)]) = _
    rw [tailW_snoc]
    rfl
theorem tailW_len : ∀ ts, (tailW ts).length = 2 * ts.length
  | [] => rfl
  | (a, b) :: r => by
    show (tailW r).length + 1 + 1 = _
    rw [tailW_len r]
    simp only [List.length_cons]; omega
theorem sumW_len {ts : List (Int × Th)} (h : 1 ≤ ts.length) : (sumW ts).length + 1 = 2 * ts.length := by
  cases ts with
  | nil => simp at h
  | cons p r =>
    show (tailW r).length + 1 + 1 = _
    rw [tailW_len]
    simp only [List.length_cons]; omega
theorem tailW_ok : ∀ {ts : List (Int × Th)}, (∀ p ∈ ts, ThOk p.2) → ∀ x ∈ tailW ts, WordOk x
  | [], _, x, hx => by simp [tailW] at hx
  | (a, b) :: r, h, x, hx => by
    have hx' : x ∈ sgS a :: thS b :: tailW r := hx
    rcases List.mem_cons.mp hx' with z | z
    · rw [z]; exact sgS_ok a
    · rcases List.mem_cons.mp z with z | z
      · rw [z]; exact (h (a, b) List.mem_cons_self).word
      · exact tailW_ok (fun p hp => h p (List.mem_cons_of_mem _ hp)) x z
theorem sumW_ok {ts : List (Int × Th)} (h : ∀ p ∈ ts, ThOk p.2) : ∀ x ∈ sumW ts, WordOk x := by
  cases ts with
  | nil => intro x hx; simp [sumW] at hx
  | cons p r =>
    intro x hx
    have hx' : x ∈ thS p.2 :: tailW r := hx
    rcases List.mem_cons.mp hx' with z | z
    · rw [z]; exact (h p List.mem_cons_self).word
    · exact tailW_ok (fun p hp => h p (List.mem_cons_of_mem _ hp)) x z
theorem Terms.ok {H : Hp} : ∀ {vs : List V} {ts : List (Int × Th)}, Terms H vs ts → ∀ p ∈ ts, ThOk p.2
  | _, _, .nil, p, hp => by simp at hp
  | _, _, .cons ⟨_, _, _, o⟩ t, p, hp => by
    rcases List.mem_cons.mp hp with z | z
    · rw [z]; exact o
    · exact Terms.ok t p z
inductive StrsE : List Expr → List Str → Prop
  | nil : StrsE [] []
  | cons {x : Str} {j pos} {es : List Expr} {ys : List Str} (h : StrsE es ys) : StrsE (.Constant (.str x) j pos :: es) (x :: ys)
section
variable {X : Cx}
theorem pa_strs {es : List Expr} {ys : List Str} (h : StrsE es ys) : PA X es (fun _ H Q => Q (ys.map V.str) H) := by
  induction h with
  | nil => exact pa_nil
  | @cons x j pos es ys h ih =>
    exact pa_cons (es := es) (pe_str (x := x) (j := j) (pos := pos)) ih rfl
theorem log_ok {n : Int} (h1 : 0 ≤ n) (h2 : n < 10 ^ 60) : n.natAbs.log2 < 1920 := by
  have h3 : n.natAbs < 2 ^ 1920 := by
    have : n.natAbs < 10 ^ 60 := by omega
    exact Nat.lt_of_lt_of_le this (by decide)
  by_cases hz : n.natAbs = 0
  · rw [hz]; decide
  · exact (Nat.log2_lt hz).mpr h3
theorem call_str_th : CallR X (.type "str") (fun xs H Q => ∃ t, xs = [thV t] ∧ ThOk t ∧ Q (.str (thS t)) H) := by
  intro pins s σ H xs us Q I r h
  obtain ⟨t, rfl, hok, q⟩ := h
  cases t with
  | num n => exact call_str_int pins s σ H _ us Q I r ⟨n, rfl, log_ok hok.1 hok.2, q⟩
  | nam x => exact call_str_str pins s σ H _ us Q I r ⟨x, rfl, q⟩
end
end L2
set_option Elab.async false
set_option linter.all false
set_option maxRecDepth 100000
set_option maxHeartbeats 4000000
namespace L2
open PySem PySem.Spec PyProof.Rows
def closL (cells : List (Str × Addr)) : List (Str × NameKind) → List (Str × Addr) → List (Str × Addr)
  | [], cs => cs
  | (n, k) :: r, cs => closL cells r (if k == .free then (n, (cells.lookup n).getD 0) :: cs else cs)
theorem closL_pure {cells : List (Str × Addr)} {env : Env} (he : env.cells = cells) : ∀ (l : List (Str × NameKind)) (cs : List (Str × Addr)), (∀ y ∈ l, y.2 = .free → ∃ c, cells.lookup y.1 = some c) →
    (forIn l cs fun p cs => (do if p.2 == .free then (do let a ← cellOf env p.1; pure (ForInStep.yield ((p.1, a) :: cs))) else pure (ForInStep.yield cs) : Sem (ForInStep (List (Str × Addr))))) = pure (closL cells l cs) := by
  intro l
  induction l with
  | nil => intro cs _; rfl
  | cons p r ih =>
    intro cs h
    obtain ⟨n, k⟩ := p
    rw [List.forIn_cons]
    have hr : ∀ y ∈ r, y.2 = .free → ∃ c, cells.lookup y.1 = some c := fun y hy => h y (List.mem_cons_of_mem _ hy)
    by_cases hk : k = .free
    · subst hk
      obtain ⟨c, hc⟩ := h (n, .free) List.mem_cons_self rfl
      have hc' : env.cells.lookup n = some c := by rw [he]; exact hc
      have e : cellOf env n = pure c := by unfold cellOf; rw [hc']
      simp only [beq_self_eq_true, if_true, e, pure_bind]
      rw [ih _ hr]
      unfold closL
      rw [if_pos (by simp), show (cells.lookup n).getD 0 = c by rw [show cells.lookup n = some c from hc]; rfl]
      conv => rhs; unfold closL
    · have hb : (k == NameKind.free) = false := by simpa using hk
      simp only [hb, Bool.false_eq_true, if_false, pure_bind]
      rw [ih _ hr]
      conv => rhs; unfold closL
      rw [if_neg (by rw [hb]; exact Bool.false_ne_true)]
theorem closL_lookup {cells : List (Str × Addr)} {x : Str} {c : Addr} : ∀ (l : List (Str × NameKind)) (cs : List (Str × Addr)), (∀ y ∈ l, y.2 = .free → ∃ c, cells.lookup y.1 = some c) → (closL cells l cs).lookup x = some c → cells.lookup x = some c ∨ cs.lookup x = some c
  | [], cs, _, h => .inr h
  | (n, k) :: r, cs, hy, h => by
    unfold closL at h
    rcases closL_lookup r _ (fun y q => hy y (List.mem_cons_of_mem _ q)) h with h | h
    · exact .inl h
    · by_cases hk : k = .free
      · subst hk
        obtain ⟨c', hc⟩ := hy (n, .free) List.mem_cons_self rfl
        have hc : cells.lookup n = some c' := hc
        rw [if_pos (by simp), List.lookup_cons] at h
        split at h
        · rename_i e
          have e' : x = n := by simpa using e
          subst e'
          rw [hc] at h
          cases h
          exact .inl hc
        · exact .inr h
      · rw [if_neg (by simpa using hk)] at h
        exact .inr h
theorem closL_keep {cells : List (Str × Addr)} {x : Str} : ∀ (l : List (Str × NameKind)) (cs : List (Str × Addr)), (∃ c, cs.lookup x = some c) → ∃ c, (closL cells l cs).lookup x = some c
  | [], _, h => h
  | (n, k) :: r, cs, h => by
    unfold closL
    refine closL_keep r _ ?_
    split
    · rw [List.lookup_cons]
      split
      · exact ⟨_, rfl⟩
      · exact h
    · exact h
theorem closL_has {cells : List (Str × Addr)} {x : Str} : ∀ (l : List (Str × NameKind)) (cs : List (Str × Addr)), (x, NameKind.free) ∈ l → ∃ c, (closL cells l cs).lookup x = some c
  | (n, k) :: r, cs, h => by
    unfold closL
    rcases List.mem_cons.mp h with e | h
    · cases e
      refine closL_keep r _ ?_
      rw [if_pos (by simp), List.lookup_cons]
      simp
    · exact closL_has r _ h
theorem closure_pure {sc : Scope} {env : Env} (h : ∀ y ∈ sc.names, y.2 = .free → ∃ c, env.cells.lookup y.1 = some c) : closureFor sc env = pure (closL env.cells sc.names []) := by
  have := closL_pure (env := env) rfl sc.names [] h
  unfold closureFor
  simp only [bind_pure]
  exact this
theorem relabel_free {env : Env} {x : Str} : ∀ {names : List (Str × NameKind)}, names.lookup x = some .free →
    (names.map fun (n, k) => if (k == NameKind.free && env.scope.kind == .function && env.kindOf n == some .cell) then (n, NameKind.cell) else (n, k)).lookup x = some .cell ∨
    (names.map fun (n, k) => if (k == NameKind.free && env.scope.kind == .function && env.kindOf n == some .cell) then (n, NameKind.cell) else (n, k)).lookup x = some .free
  | [], h => by simp at h
  | (n, k) :: r, h => by
    have ih := @relabel_free env x r
    simp only [List.map_cons]
    by_cases hc : (k == NameKind.free && env.scope.kind == .function && env.kindOf n == some .cell) = true
    · rw [if_pos hc]
      simp only [List.lookup_cons] at h ⊢
      cases hx : x == n with
      | true => exact .inl rfl
      | false => simp only [hx] at h ⊢; exact ih h
    · rw [if_neg hc]
      simp only [List.lookup_cons] at h ⊢
      cases hx : x == n with
      | true => simp only [hx] at h ⊢; exact .inr h
      | false => simp only [hx] at h ⊢; exact ih h
theorem relabel_back {env : Env} {x : Str} : ∀ {names : List (Str × NameKind)},
    (names.map fun (n, k) => if (k == NameKind.free && env.scope.kind == .function && env.kindOf n == some .cell) then (n, NameKind.cell) else (n, k)).lookup x = some .cell ∨
    (names.map fun (n, k) => if (k == NameKind.free && env.scope.kind == .function && env.kindOf n == some .cell) then (n, NameKind.cell) else (n, k)).lookup x = some .free →
    (x, NameKind.free) ∈ names ∨ (x, NameKind.cell) ∈ names
  | [], h => by simp at h
  | (n, k) :: r, h => by
    have ih := @relabel_back env x r
    simp only [List.map_cons] at h
    have tl : (x, NameKind.free) ∈ r ∨ (x, NameKind.cell) ∈ r → (x, NameKind.free) ∈ (n, k) :: r ∨ (x, NameKind.cell) ∈ (n, k) :: r := fun q => q.imp (List.mem_cons_of_mem _) (List.mem_cons_of_mem _)
    by_cases hc : (k == NameKind.free && env.scope.kind == .function && env.kindOf n == some .cell) = true
    · rw [if_pos hc] at h
      have hk : k = .free := by
        simp only [Bool.and_eq_true] at hc
        simpa using hc.1.1
      simp only [List.lookup_cons] at h
      cases hx : x == n with
      | true =>
        have e : x = n := by simpa using hx
        subst e hk
        exact .inl List.mem_cons_self
      | false => simp only [hx] at h; exact tl (ih h)
    · rw [if_neg hc] at h
      simp only [List.lookup_cons] at h
      cases hx : x == n with
      | true =>
        have e : x = n := by simpa using hx
        subst e
        simp only [hx] at h
        rcases h with h | h
        · cases h; exact .inr List.mem_cons_self
        · cases h; exact .inl List.mem_cons_self
      | false => simp only [hx] at h; exact tl (ih h)
structure CompScope (osc : Scope) (N : List Str) (sc : Scope) (M : List Str) (ρ : List (Option Nat)) : Prop where
  kind : sc.kind = .function
  nocell : ∀ y ∈ sc.names, y.2 ≠ .cell
  own : ∀ y ∈ sc.names, y.2 = .local → sc.names.lookup y.1 = some .local
  fre : ∀ y ∈ sc.names, y.2 = .free → osc.names.lookup y.1 = some .cell ∨ osc.names.lookup y.1 = some .free
  len : ρ.length = M.length
  ren : ∀ p ∈ ρ.zip M, (match p.1 with | none => true | some i => decide (N[i]? = some p.2 ∧ sc.names.lookup p.2 = some .free)) = true
  nd : M.Nodup
def subS (ρ : List (Option Nat)) (σ : St) : St := ρ.map fun o => match o with | none => none | some i => (σ[i]?).join
def cxComp (X : Cx) (sc : Scope) (cl : List (Str × Addr)) (C : Addr) (M : List Str) (s : Shared) (H : Hp) (fp : List Addr) (xe : Value → Shared → Prop) : Cx where
  prog := X.prog
  w := X.w
  K := X.K
  mg := X.mg
  base := X.base
  A := X.A
  N := M
  s₀ := s
  H₀ := H
  env := compEnvC sc cl C X.env
  outer := X.stack
  stack := X.stack
  ex := fp
  fn := fun _ => false
  calm := X.calm
  pn := []
  xe := xe
theorem comp_loop {P : Program} {w : World} {A : Around} {R : Result → Shared → Prop} {s : Shared} {elt tg iter : Expr} {ifs : List Expr} {sc : Scope} {pos : Pos} {it acc : Value} {env : Env} (J : Nat → Shared → Prop)
    (turn : ∀ n s, J n s → wpAny (model P w) A (pyNext it) (fun r s1 => match r with
      | none => R (.ok .next) s1
      | some v => wpAny (model P w) A (letOwnedTupleGo tg it v) (fun _ s2 => wpAny (model P w) A (assign tg env v) (fun _ s3 =>
          wpAny (model P w) A (forIn ifs true fun c r => if r = true then do let ok ← isTrue c env (eval c env); pure (ForInStep.yield ok) else pure (ForInStep.yield r)) (fun ok s4 =>
            if ok = true then wpAny (model P w) A (eval elt env) (fun x s5 => wpAny (model P w) A (call (.builtin "list.append") [acc, x]) (fun _ s6 => ∃ m, m < n ∧ J m s6) (notedBy (model P w) A env fun e s' => R (.error e) s') s5)
              (notedBy (model P w) A env fun e s' => R (.error e) s') s4
            else ∃ m, m < n ∧ J m s4) (notedBy (model P w) A env fun e s' => R (.error e) s') s3) (notedBy (model P w) A env fun e s' => R (.error e) s') s2) (notedBy (model P w) A env fun e s' => R (.error e) s') s1)
      (notedBy (model P w) A env fun e s' => R (.error e) s') s)
    (n : Nat) (h : J n s) : codeAny (model P w) A (.compLoop (.ListComp elt [⟨tg, iter, ifs, 0⟩] sc pos) 0 it acc env) R s := by
  refine codeAny_loop rfl J (fun n s hJ => ?_) n h
  show wpAny (model P w) A ((compTurn (.ListComp elt [⟨tg, iter, ifs, 0⟩] sc pos) 0 it acc env).onRaise fun x => do noteFrame x env; theTreesLotGoes x) _ _ s
  refine wpAny_noted ?_
  rw [compTurn_list]
  refine wpAny_bind (wpAny_standAt (wpAny_bind (thn (turn n s hJ) fun r s1 h1 => ?_)))
  cases r with
  | none => exact wpAny_pure h1
  | some v =>
    refine wpAny_bind (thn h1 fun _ s2 h2 => wpAny_bind (thn h2 fun _ s3 h3 => wpAny_bind (thn h3 fun ok s4 h4 => ?_)))
    cases ok with
    | false => exact wpAny_pure ⟨rfl, h4⟩
    | true => exact wpAny_bind (wpAny_bind (thn h4 fun x s5 h5 => wpAny_bind (thn h5 fun _ s6 h6 => wpAny_pure (wpAny_pure ⟨rfl, h6⟩))))
def PTs (X : Cx) (ifs : List Expr) (t : TT) : Prop :=
  ∀ (pins : List (Addr × Obj)) (s : Shared) (σ : St) (H : Hp) (Q : Bool → Hp → Prop), Inv X pins σ H s → t σ H Q →
    wpAny (model X.prog X.w) X.A (forIn ifs true fun c r => if r = true then do let ok ← isTrue c X.env (eval c X.env); pure (ForInStep.yield ok) else pure (ForInStep.yield r)) (TP X pins σ Q) X.xe s
def tNoTest : TT := fun _ H Q => Q true H
theorem ntG {i : Nat} {v : V} {σ : St} {H : Hp} {A B : St → Hp → Prop} (h : A (σ.set i (some v)) H) : gName i v σ H (fun σ4 H4 => tNoTest σ4 H4 fun b H5 => if b = true then A σ4 H5 else B σ4 H5) := by
  show if true = true then A (σ.set i (some v)) H else B (σ.set i (some v)) H
  exact iteT h
theorem pts_nil {X : Cx} : PTs X [] tNoTest := fun _ _ _ H _ I h => wpAny_tests_nil ⟨H, I, h⟩
def tComp (wi : TI) (ρ : List (Option Nat)) (g : TG) (tt : TT) (te : TE) : TE := fun σ H Q => wi σ H fun J H1 => ∀ D, H1 D = none → ∃ W : Nat → Nat → St → Hp → Prop, (∃ m, W 0 m (subS ρ σ) (upd H1 D (.lst []))) ∧ ∀ i m σ2 H2, W i m σ2 H2 →
  (J.stop i H2 ∧ Q (.ref D) H2) ∨ (J.go i H2 ∧ ∃ N : St → Hp → Prop, (∀ σ' H', N σ' H' → ∃ m', m' < m ∧ W (i + 1) m' σ' H') ∧ ∀ x H3, J.yld i H2 x H3 → g x σ2 H3 fun σ4 H4 => tt σ4 H4 fun b H5 =>
    if b = true then te σ4 H5 fun y H6 => ∃ ys, H6 D = some (.lst ys) ∧ ys.length < sizeLine ∧ N σ4 (upd H6 D (.lst (ys ++ [y])))
    else N σ4 H5)
theorem comp_by {J : It} {g : TG} {tt : TT} {te : TE} {Q : Hp → Prop} {σ : St} {H : Hp} {D : Addr} (n : Nat) (Pv : Nat → St → Hp → Prop) (h0 : Pv 0 σ (upd H D (.lst [])))
    (hs : ∀ i σ2 H2, i < n → Pv i σ2 H2 → J.go i H2 ∧ ∀ x H3, J.yld i H2 x H3 → g x σ2 H3 fun σ4 H4 => tt σ4 H4 fun b H5 =>
      if b = true then te σ4 H5 fun y H6 => ∃ ys, H6 D = some (.lst ys) ∧ ys.length < sizeLine ∧ Pv (i + 1) σ4 (upd H6 D (.lst (ys ++ [y]))) else Pv (i + 1) σ4 H5)
    (hd : ∀ σ2 H2, Pv n σ2 H2 → J.stop n H2 ∧ Q H2) :
    ∃ W : Nat → Nat → St → Hp → Prop, (∃ m, W 0 m σ (upd H D (.lst []))) ∧ ∀ i m σ2 H2, W i m σ2 H2 →
      (J.stop i H2 ∧ Q H2) ∨ (J.go i H2 ∧ ∃ N : St → Hp → Prop, (∀ σ' H', N σ' H' → ∃ m', m' < m ∧ W (i + 1) m' σ' H') ∧ ∀ x H3, J.yld i H2 x H3 → g x σ2 H3 fun σ4 H4 => tt σ4 H4 fun b H5 =>
        if b = true then te σ4 H5 fun y H6 => ∃ ys, H6 D = some (.lst ys) ∧ ys.length < sizeLine ∧ N σ4 (upd H6 D (.lst (ys ++ [y]))) else N σ4 H5) := by
  refine ⟨fun i m σ H => m = n - i ∧ i ≤ n ∧ Pv i σ H, ⟨n, by simp, Nat.zero_le _, h0⟩, ?_⟩
  rintro i m σ2 H2 ⟨rfl, hi, p⟩
  by_cases hlt : i < n
  · obtain ⟨h1, h2⟩ := hs i σ2 H2 hlt p
    exact .inr ⟨h1, Pv (i + 1), fun σ' H' p' => ⟨n - (i + 1), by omega, rfl, hlt, p'⟩, h2⟩
  · have e : i = n := by omega
    subst e
    exact .inl (hd σ2 H2 p)
section
variable {X : Cx} {tg elt iter : Expr} {ifs : List Expr} {sc : Scope} {pos : Pos} {M : List Str} {ρ : List (Option Nat)} {wi : TI} {g : TG} {tt : TT} {te : TE}
theorem comp_block (osc : Scope) (hosc : X.env.scope = osc) (N : List Str) (hN : X.N = N) (S : CompScope osc N sc M ρ) (hc : X.calm = true)
    (hg : ∀ cl C s H fp xe, PG (cxComp X sc cl C M s H fp xe) tg g) (ht : ∀ cl C s H fp xe, PTs (cxComp X sc cl C M s H fp xe) ifs tt) (he : ∀ cl C s H fp xe, PE (cxComp X sc cl C M s H fp xe) elt te)
    {pins : List (Addr × Obj)} {σ : St} {H : Hp} {s : Shared} {itv : Value} {Q : VK} {RR : Value → Addr → Result → Shared → Prop} (I : Inv X pins σ H s)
    (h2 : PIE X pins σ tg (fun J H1 => ∀ D, H1 D = none → ∃ W : Nat → Nat → St → Hp → Prop, (∃ m, W 0 m (subS ρ σ) (upd H1 D (.lst []))) ∧ ∀ i m σ2 H2, W i m σ2 H2 →
      (J.stop i H2 ∧ Q (.ref D) H2) ∨ (J.go i H2 ∧ ∃ N : St → Hp → Prop, (∀ σ' H', N σ' H' → ∃ m', m' < m ∧ W (i + 1) m' σ' H') ∧ ∀ x H3, J.yld i H2 x H3 → g x σ2 H3 fun σ4 H4 => tt σ4 H4 fun b H5 =>
        if b = true then te σ4 H5 fun y H6 => ∃ ys, H6 D = some (.lst ys) ∧ ys.length < sizeLine ∧ N σ4 (upd H6 D (.lst (ys ++ [y])))
        else N σ4 H5)) itv s)
    (hR : ∀ (D C : Addr) (H' : Hp) (s' : Shared) (mC : Str → Option Value), Inv X pins σ H' s' → s'.heap.Ns C mC → FpOk X pins H' C → Q (.ref D) H' → RR (.ref D) C (.ok .next) s') :
    wpAny (model X.prog X.w) X.A (newList []) (fun acc s3 => wpAny (model X.prog X.w) X.A (newFunctionEnv sc X.env.globals (closL X.env.cells sc.names []) [] X.env.qual none .none (some X.env)) (fun cenv s4 =>
      codeAny (model X.prog X.w) X.A (.compStart (.ListComp elt [⟨tg, iter, ifs, 0⟩] sc pos) 0 itv acc { cenv with scope := relabel sc X.env }) (RR acc cenv.locals) s4) X.xe s3) X.xe s := by
  subst hosc hN
  obtain ⟨it, fp, tn, J, H2, rfl, I2, T, st2, f2, q2⟩ := h2
  have hcells : ∀ y ∈ sc.names, y.2 = .free → ∃ c, X.env.cells.lookup y.1 = some c := fun y hy hf => I2.ok.has y.1 (S.fre y hy hf)
  have hclx : ∀ {x c}, (closL X.env.cells sc.names []).lookup x = some c → X.env.cells.lookup x = some c := fun {x c} e => (closL_lookup _ _ hcells e).elim id fun z => by simp at z
  generalize hcl : closL X.env.cells sc.names [] = cl at hclx ⊢
  refine wpAny_newObj_type (wpAny_newFunctionEnv S.nocell (by intro y hy; simp at hy) (fun h1 hns hsb => ?_) S.kind)
  dsimp only at hns hsb ⊢
  generalize hG : s.heap.push { cls := .type "list", dict := none, data := .seq ([] : List Value).toArray } = G at hns hsb ⊢
  have hC : G.objs.size = s.heap.objs.size + 1 := by rw [← hG, Heap.size_push]
  have old : ∀ b o, s.heap.get? b = some o → h1.get? b = some o := fun b o e =>
    hsb.extBut b o (Nat.ne_of_lt (by rw [hC]; exact Nat.lt_succ_of_lt (Heap.lt_size e))) (Heap.get?_push_of_some _ (hG ▸ Heap.get?_push_of_some _ e))
  have hD1 : h1.get? s.heap.objs.size = some { cls := .type "list", dict := none, data := .seq ([] : List Value).toArray } :=
    hsb.extBut _ _ (by rw [hC]; exact Nat.ne_of_lt (Nat.lt_succ_self _)) (Heap.get?_push_of_some _ (hG ▸ Heap.get?_push_size _ rfl))
  have hDn : H2 s.heap.objs.size = none := I2.hok.fresh (Nat.le_refl _)
  obtain ⟨W, ⟨m0, w0⟩, turn⟩ := q2 s.heap.objs.size hDn
  have hCle : s.heap.objs.size ≤ G.objs.size := by rw [hC]; exact Nat.le_succ _
  have hCD : G.objs.size ≠ s.heap.objs.size := by rw [hC]; exact Nat.succ_ne_self _
  generalize hxe : notedBy (model X.prog X.w) X.A (compEnvC sc cl G.objs.size X.env) (fun e s' => RR (.ref s.heap.objs.size) G.objs.size (.error e) s') = xe
  have fpC : ∀ b ∈ fp, b ≠ G.objs.size := fun b hb => by
    obtain ⟨o, e, _⟩ := T.obj 0 _ st2 b hb
    have := Heap.lt_size e
    exact Nat.ne_of_lt (Nat.lt_of_lt_of_le this hCle)
  have fpS : ∀ b ∈ fp, b ∉ frs X.stack := fun b hb z => by
    obtain ⟨f0, f1, f3, _⟩ := f2 b hb
    rcases List.mem_cons.mp (I2.stkSub b z) with e | e
    · exact f1 e
    · exact f3 e
  have hok : (cxComp X sc cl G.objs.size M s H2 fp xe).Ok := by
    refine ⟨I2.ok.mod, S.kind, I2.ok.glob, I2.ok.blt, hCle, fun x y c e1 e2 => I2.ok.inj x y c (hclx e1) (hclx e2), fun x hx => ?_, (fun x c e _ => absurd (show false = true from e) Bool.false_ne_true), I2.ok.hd, I2.ok.frames, .inl rfl, fun b hb => ⟨fpC b hb, fun x c e => (f2 b hb).2.2.2.2.1 x c (hclx e)⟩,
      I2.bs, Nat.le_trans I2.ok.bsz I2.sz, fun b o e hb => ?_, fpS, I2.stack, I2.stkFree⟩
    · rcases relabel_back (names := sc.names) (env := X.env) hx with q | q
      · rw [← hcl]; exact closL_has _ _ q
      · exact absurd rfl (S.nocell _ q)
    · rcases (f2 b hb).2.2.2.1 with z | z
      · exact I2.ok.noex b o e z
      · exact absurd (Nat.lt_of_lt_of_le (Heap.lt_size e) (Nat.le_trans I2.ok.bsz z)) (Nat.lt_irrefl _)
  have I4 : Inv (cxComp X sc cl G.objs.size M s H2 fp xe) [] (subS ρ σ) (upd H2 s.heap.objs.size (.lst [])) { s with heap := h1, toks := s.toks + ([] : List (Str × Value)).length } := by
    refine ⟨hok, rfl, I2.bare, Un.laid old (Nat.le_refl _) hDn, ⟨_, hns, fun j x v e1 e2 _ => ?_⟩, fun x c e => ?_, ?_, fun x c e => ?_, fun p hp => absurd (show p ∈ ([] : List (Addr × Obj)) from hp) (by simp), I2.hok.laid old (Nat.le_refl _) ⟨by show 0 ≤ sizeLine; decide, [], 0, .nil, hD1⟩, ?_⟩
    · unfold subS at e2
      rw [List.getElem?_map] at e2
      cases q : ρ[j]? with
      | none => rw [q] at e2; cases e2
      | some o =>
        rw [q] at e2
        cases o with
        | none => cases e2
        | some i =>
          have e2' : (σ[i]?).join = some v := Option.some.inj e2
          have e3 : σ[i]? = some (some v) := by
            cases z : σ[i]? with
            | none => rw [z] at e2'; cases e2'
            | some y => rw [z] at e2'; cases y with
              | none => cases e2'
              | some y => cases e2'; rfl
          have hz : (ρ.zip M)[j]? = some (some i, x) := List.getElem?_zip_eq_some.mpr ⟨q, e1⟩
          have hr := S.ren (some i, x) (List.mem_of_getElem? hz)
          obtain ⟨r1, r2⟩ := of_decide_eq_true hr
          obtain ⟨m, hn, hl⟩ := I2.loc
          have hfr := S.fre _ (PySem.mem_of_lookup r2) rfl
          obtain ⟨u, ru, lk⟩ := hl i x v r1 e3 (hfr.elim (fun z => .inr (.inl z)) fun z => .inr (.inr z))
          refine ⟨u, ru, ?_⟩
          rcases lk with ⟨k, _⟩ | ⟨_, c, hcc, cell⟩
          · have k' : X.env.scope.names.lookup x = some .local := k
            rcases hfr with z | z
            · rw [k'] at z; cases z
            · rw [k'] at z; cases z
          · obtain ⟨c', hc'⟩ := closL_has (cells := X.env.cells) sc.names [] (PySem.mem_of_lookup r2)
            rw [hcl] at hc'
            have := hclx hc'
            rw [hcc] at this
            cases this
            obtain ⟨oc, ho, hd⟩ := cell
            exact .inr ⟨relabel_free r2, _, hc', oc, old _ _ ho, hd⟩
    · obtain ⟨v, oc, ho, hd⟩ := I2.cell x c (hclx e)
      exact ⟨v, oc, old _ _ ho, hd⟩
    · show upd H2 s.heap.objs.size (.lst []) G.objs.size = none
      rw [upd_ne hCD]
      exact I2.hok.fresh hCle
    · show upd H2 s.heap.objs.size (.lst []) c = none
      obtain ⟨v, oc, ho, hd⟩ := I2.cell x c (hclx e)
      rw [upd_ne (Nat.ne_of_lt (Heap.lt_size ho))]
      exact I2.freeC x c (hclx e)
    · show (subS ρ σ).length = M.length
      unfold subS
      rw [List.length_map, S.len]
  have st4 : tn 0 h1 := T.keep 0 _ _ st2 fun b _ o e => old b o e
  have fr4 : ∀ b ∈ fp, upd H2 s.heap.objs.size (.lst []) b = none := fun b hb => by
    obtain ⟨o, e, _⟩ := T.obj 0 _ st2 b hb
    rw [upd_ne (Nat.ne_of_lt (Heap.lt_size e))]
    exact (f2 b hb).1
  have stat : ∀ {H' : Hp}, (∀ b ∈ fp, H' b = none) → ∀ b ∈ fp, FpOk (cxComp X sc cl G.objs.size M s H2 fp xe) [] H' b := fun hn b hb =>
    ⟨hn b hb, fpC b hb, fpS b hb, .inl hb, fun x c e => (f2 b hb).2.2.2.2.1 x c (hclx e), fun p hp => absurd (show p ∈ ([] : List (Addr × Obj)) from hp) (by simp)⟩
  have loop : codeAny (model X.prog X.w) X.A (.compLoop (.ListComp elt [⟨tg, iter, ifs, 0⟩] sc pos) 0 (.ref it) (.ref s.heap.objs.size) (compEnvC sc cl G.objs.size X.env)) (RR (.ref s.heap.objs.size) G.objs.size)
      { s with heap := h1, toks := s.toks + ([] : List (Str × Value)).length } := by
    refine comp_loop (fun n s' => ∃ i σ' H', Inv (cxComp X sc cl G.objs.size M s H2 fp xe) [] σ' H' s' ∧ tn i s'.heap ∧ (∀ b ∈ fp, H' b = none) ∧ W i n σ' H') ?_ m0 ⟨0, _, _, I4, st4, fr4, w0⟩
    rw [hxe]
    rintro n s3 ⟨i, σ3, H3, I3, st3, fr3, w3⟩
    rcases turn i n σ3 H3 w3 with ⟨stop, qn⟩ | ⟨go, N, hN, step⟩
    · refine thn (T.done (cxComp X sc cl G.objs.size M s H2 fp xe) rfl rfl rfl hc i [] s3 σ3 H3 xe I3 (stat fr3) st3 stop) fun r s4 ⟨hr, I5⟩ => ?_
      subst hr
      obtain ⟨mC, nC, _⟩ := I5.loc
      have I6 : Inv X pins σ H3 s4 := I2.call' I5.os I5.base I5.hok I5.bare fun b hb => ⟨(f2 b hb).2.2.2.1, (f2 b hb).2.1, (f2 b hb).2.2.2.2.1, (f2 b hb).2.2.2.2.2⟩
      exact hR _ _ H3 s4 mC I6 nC (I2.fpOk hCle I5.free) qn
    · refine thn (T.item (cxComp X sc cl G.objs.size M s H2 fp xe) rfl rfl rfl hc i [] s3 σ3 H3 xe I3 (stat fr3) st3 go) fun r s4 ⟨u, hr, h4⟩ => ?_
      subst hr
      refine thn h4 fun _ s5 ⟨x, H5, I5, r5, y5, st5, fr5⟩ => ?_
      have I5' := I5.pinned (stat fr5) (T.obj _ _ st5)
      refine thn (hg cl G.objs.size s H2 fp xe _ s5 σ3 H5 x u _ I5' r5 (step x H5 y5)) fun _ s6 ⟨σ6, H6, I6, q6⟩ => ?_
      have fin : ∀ {s7 : Shared} {σ7 : St} {H7 : Hp}, Inv (cxComp X sc cl G.objs.size M s H2 fp xe) ([] ++ pinsAt fp s5.heap) σ7 H7 s7 → (∃ m', m' < n ∧ W (i + 1) m' σ7 H7) →
          ∃ m, m < n ∧ ∃ i σ' H', Inv (cxComp X sc cl G.objs.size M s H2 fp xe) [] σ' H' s7 ∧ tn i s7.heap ∧ (∀ b ∈ fp, H' b = none) ∧ W i m σ' H' := fun {s7 σ7 H7} I7 ⟨m', hm, w7⟩ => by
        refine ⟨m', hm, i + 1, σ7, H7, I7.unpinned, T.keep _ _ _ st5 fun b hb o e => (I7.pin (b, o) (List.mem_append_right _ (List.mem_append_right _ (mem_pinsAt hb e)))).1, fun b hb => ?_, w7⟩
        obtain ⟨o, e, d⟩ := T.obj _ _ st5 b hb
        exact (I7.pin (b, o) (List.mem_append_right _ (List.mem_append_right _ (mem_pinsAt hb e)))).2.1
      refine thn (ht cl G.objs.size s H2 fp xe _ s6 σ6 H6 _ I6 q6) fun ok s7 ⟨H7, I7, q7⟩ => ?_
      cases ok with
      | false =>
        rw [if_neg Bool.false_ne_true] at q7 ⊢
        exact fin I7 (hN _ _ q7)
      | true =>
        rw [if_pos rfl] at q7 ⊢
        refine thn (he cl G.objs.size s H2 fp xe _ s7 σ6 H7 _ I7 q7) fun y s8 ⟨yv, H8, I8, r8, ys, hys, hlt, q8⟩ => ?_
        obtain ⟨z, its, k, rv, hl, e⟩ := I8.lstM hys
        refine call_meets F.slot_list_append ⟨_, e, rfl⟩ F.entry_list_append (F.args_list_append_2 _ _) (PySem.list_append _ its.toArray k y (by rw [List.size_toArray]; omega)) ⟨e, ?_⟩
        exact fin (I8.lset (its' := its ++ [y]) hys e (by simp) (rv.append (.cons r8 .nil)) (by rw [List.length_append, List.length_singleton]; omega)) (hN _ _ q8)
  exact codeAny_compStart_list loop (T.self X.A 0 _ _ _ st4 loop)
theorem pe_comp (osc : Scope) (N : List Str) (S : CompScope osc N sc M ρ) (hi : PI X tg iter wi) (hg : ∀ cl C s H fp xe, PG (cxComp X sc cl C M s H fp xe) tg g) (ht : ∀ cl C s H fp xe, PTs (cxComp X sc cl C M s H fp xe) ifs tt)
    (he : ∀ cl C s H fp xe, PE (cxComp X sc cl C M s H fp xe) elt te) (hosc : X.env.scope = osc := by rfl) (hN : X.N = N := by rfl) (hc : X.calm = true := by rfl) (hs : ∀ x, foldedSetIterable iter X.env x = pure x := by intro _; rfl) :
    PE X (.ListComp elt [⟨tg, iter, ifs, 0⟩] sc pos) (tComp wi ρ g tt te) := by
  intro pins s σ H Q I h
  have hcells : ∀ y ∈ sc.names, y.2 = .free → ∃ c, X.env.cells.lookup y.1 = some c := fun y hy hf => I.ok.has y.1 (by show X.env.scope.names.lookup y.1 = _ ∨ X.env.scope.names.lookup y.1 = _; rw [hosc]; exact S.fre y hy hf)
  rw [eval_ListComp]
  refine wpAny_comprehension_free (M := model X.prog X.w) (A := X.A) (E := X.xe) (e := .ListComp elt [⟨tg, iter, ifs, 0⟩] sc pos) rfl hs (closure_pure hcells) S.kind S.own (thn (hi pins s σ H _ I h) fun v s1 h1 => thn h1 fun itv s2 h2 => ?_)
  obtain ⟨_, _, _, _, _, _, I2, _⟩ := id h2
  refine comp_block (RR := fun acc C => compPost (model X.prog X.w) X.A X.xe none (EP X pins σ Q) acc C) osc hosc N hN S hc hg ht he I2 h2 fun D C H' s' mC I' nC fC q => ?_
  refine ⟨mC, nC, fun h' sb => ?_⟩
  obtain ⟨f0, f1, _, f3, f4, f5⟩ := fC
  exact ⟨.ref D, H', I'.turned (t' := s'.toks) (fun b o hb e => (sb.2 b hb).trans e) f0 f1 f3 f4 f5, rfl, q⟩
theorem ps_setC {j : Nat} {x : Str} {px spos : Pos} (osc : Scope) (N : List Str) (S : CompScope osc N sc M ρ) (hNd : X.N.Nodup) (hj : X.N[j]? = some x) (hx : Loc X.env.scope x) (hi : PI X tg iter wi) (hg : ∀ cl C s H fp xe, PG (cxComp X sc cl C M s H fp xe) tg g)
    (ht : ∀ cl C s H fp xe, PTs (cxComp X sc cl C M s H fp xe) ifs tt) (he : ∀ cl C s H fp xe, PE (cxComp X sc cl C M s H fp xe) elt te)
    (hsw : swapsWith (.ListComp elt [⟨tg, iter, ifs, 0⟩] sc pos) (some (.Name x px)) spos.line X.env = pure true := by rfl) (hosc : X.env.scope = osc := by rfl) (hN : X.N = N := by rfl) (hc : X.calm = true := by rfl) (hs : ∀ x, foldedSetIterable iter X.env x = pure x := by intro _; rfl)
    (hf : X.fn x = true ∨ X.env.scope.names.lookup x = some .local := by first | exact .inl rfl | exact .inr rfl | assumption) :
    PS X (.Assign [.Name x px] (.ListComp elt [⟨tg, iter, ifs, 0⟩] sc pos) spos) (tAsg (tComp wi ρ g tt te) (gName j)) := by
  intro pins s σ H D I h
  have hcells : ∀ y ∈ sc.names, y.2 = .free → ∃ c, X.env.cells.lookup y.1 = some c := fun y hy hf => I.ok.has y.1 (by show X.env.scope.names.lookup y.1 = _ ∨ X.env.scope.names.lookup y.1 = _; rw [hosc]; exact S.fre y hy hf)
  rw [exec_Assign_Name_used _ _ _ _ hsw]
  refine wpAny_bind (wpAny_standAt (wpAny_bind ?_))
  show wpAny (model X.prog X.w) X.A (do let _ ← comprehension (.ListComp elt [⟨tg, iter, ifs, 0⟩] sc pos) sc X.env (firstIterPos [⟨tg, iter, ifs, 0⟩] pos) (newList []) false (eval iter X.env) (some (assign (.Name x px) X.env))) _ X.xe s
  refine wpAny_bind (thn (Q := fun _ s' => SP X pins D .next s') (wpAny_comprehension_free (M := model X.prog X.w) (A := X.A) (E := X.xe) (e := .ListComp elt [⟨tg, iter, ifs, 0⟩] sc pos) (use := some (assign (.Name x px) X.env)) rfl hs (closure_pure hcells) S.kind S.own
    (thn (hi pins s σ H _ I h) fun v s1 h1 => thn h1 fun itv s2 h2 => ?_)) fun _ s' hq => wpAny_pure (wpAny_pure hq))
  obtain ⟨_, _, _, _, _, _, I2, _⟩ := id h2
  refine comp_block (Q := fun v H' => gName j v σ H' D.nx) (RR := fun acc C => compPost (model X.prog X.w) X.A X.xe (some (assign (.Name x px) X.env)) (fun _ s' => SP X pins D .next s') acc C) osc hosc N hN S hc hg ht he I2 h2 fun D' C H' s' mC I' nC fC q => ?_
  show wpAny _ _ (assign (.Name x px) X.env (.ref D')) _ _ s'
  refine wpAny_assign_Name (store_ok2 I' hNd hj hx (v := .ref D') rfl (fun s3 I3 ⟨a, sb, ha⟩ => ?_) hf)
  have hCa : C ≠ a := by
    rcases ha with e | e
    · rw [e]; exact fC.2.1
    · exact fun z => fC.2.2.2.2.1 x a e z.symm
  refine ⟨mC, nC.sameBut sb hCa, fun h' sb2 => ?_⟩
  obtain ⟨f0, f1, _, f3, f4, f5⟩ := fC
  exact ⟨_, H', I3.turned (t' := s3.toks) (fun b o hb e => (sb2.2 b hb).trans e) f0 f1 f3 f4 f5, q⟩
end
end L2
set_option Elab.async false
set_option linter.all false
set_option maxRecDepth 100000
set_option maxHeartbeats 4000000
namespace L2
open PySem PySem.Spec PyProof.Rows
def Its (x : Str) : It := ⟨fun i _ => i < x.cps.size, fun i H v H' => H' = H ∧ ∃ c, x.cps.toList[i]? = some c ∧ v = .str ⟨#[c]⟩, fun i _ => x.cps.size ≤ i⟩
theorem turn_str {P : Program} {w : World} {K : PySem.W.Frag} {tg : Expr} (x : Str) (t : Tok) (it : Addr) (ty : String) (hty : ty = "str_ascii_iterator" ∨ ty = "str_iterator") : Turn P w K tg (Its x) [it] it (fun i h => h.IsStrIter it ty x t i) where
  mem := by simp
  obj := fun i h st b hb => by
    have e : b = it := by simpa using hb
    subst e
    obtain ⟨o, e, c, d⟩ := st
    exact ⟨o, e, fun v z => by rw [d] at z; cases z⟩
  keep := fun i h h' st k => by
    obtain ⟨o, e, c, d⟩ := st
    exact ⟨o, k it (by simp) o e, c, d⟩
  item := by
    intro X hP hw hK hc i pins s σ H E I hf st hg
    subst hP hw hK
    obtain ⟨f0, f1, f2, f3, f4, f5⟩ := hf it (by simp)
    have hg' : i < x.cps.size := hg
    have hn : ["enumerate", "zip", "dict_itemiterator", "dict_reverseitemiterator", "odict_iterator", "itertools.zip_longest", "itertools.pairwise"].contains ty = false := by rcases hty with e | e <;> subst e <;> decide
    have fin : ∀ (v : Value) (h' : Heap) (tk : Nat), SignAt x i v → h'.IsStrIter it ty x t (i + 1) → (∀ b o, b ∉ [it] → s.heap.get? b = some o → h'.get? b = some o) → ∃ u, some v = some u ∧
        wpAny (model X.prog X.w) X.A (letOwnedTupleGo tg (.ref it) u) (fun _ s2 => ∃ y H', Inv X pins σ H' s2 ∧ RelV y u ∧ (Its x).yld i H y H' ∧ s2.heap.IsStrIter it ty x t (i + 1) ∧ ∀ b ∈ [it], H' b = none) E { s with heap := h', toks := tk } := fun v h' tk hv st' kk => by
      obtain ⟨c, u, hc', rfl⟩ := hv
      have I1 : Inv X pins σ H { s with heap := h', toks := tk } := I.turned (fun b o hb e => kk b o (by simpa using hb) e) f0 f1 f3 f4 f5
      obtain ⟨o, e, c', d⟩ := id st'
      exact ⟨_, rfl, go_of (s := { s with heap := h', toks := tk }) e c' d hn ⟨.str ⟨#[c]⟩, H, I1, ⟨u, rfl⟩, ⟨rfl, c, by rw [← hc']; simp, rfl⟩, st', fun b hb => (hf b hb).1⟩⟩
    rcases hty with e | e
    · subst e
      exact (Walks.strAscii (prog := X.prog) (w := X.w) (I.ok.hd hc) it x t).item i s _ _ hg' st fun v h' tk hv st' kk => fin v h' tk hv st' kk
    · subst e
      exact (Walks.strWide (prog := X.prog) (w := X.w) (I.ok.hd hc) it x t).item i s _ _ hg' st fun v h' tk hv st' kk => fin v h' tk hv st' kk
  done := by
    intro X hP hw hK hc i pins s σ H E I hf st hg
    subst hP hw hK
    obtain ⟨f0, f1, f2, f3, f4, f5⟩ := hf it (by simp)
    have hg' : x.cps.size ≤ i := hg
    rcases hty with e | e
    · subst e
      exact wpAny_pyNext_ascii_end (I.ok.hd hc) st (by simpa using hg') fun h' eb => ⟨rfl, I.turned (t' := s.toks) (fun b o hb e => eb b o hb e) f0 f1 f3 f4 f5⟩
    · subst e
      exact wpAny_pyNext_wide_end (I.ok.hd hc) st (by simpa using hg') fun h' eb => ⟨rfl, I.turned (t' := s.toks) (fun b o hb e => eb b o hb e) f0 f1 f3 f4 f5⟩
  self := fun _ _ _ _ _ st h => by
    rcases hty with e | e
    · subst e; exact wpAny_pyIter_striter_ascii st h
    · subst e; exact wpAny_pyIter_striter_wide st h
def Itr3 (lo c : Int) (n : Nat) : It := ⟨fun i _ => i < n, fun i H x H' => H' = H ∧ x = .int (lo + i * c), fun i _ => n ≤ i⟩
theorem turn_range3 {P : Program} {w : World} {K : PySem.W.Frag} {tg : Expr} (it : Addr) (lo c : Int) (n : Nat) : Turn P w K tg (Itr3 lo c n) [it] it (fun i h => IsRangeIter h it (lo + (i : Nat) * c) ((n : Int) - (i : Nat)) c) where
  mem := by simp
  obj := fun i h st b hb => by
    have e : b = it := by simpa using hb
    subst e
    exact ⟨_, st, fun v z => by
      have z' : Data.fields _ = Data.cell v := z
      cases z'⟩
  keep := fun i h h' st k => k it (by simp) _ st
  item := by
    intro X hP hw hK hc i pins s σ H E I hf st hg
    subst hP hw hK
    obtain ⟨f0, f1, f2, f3, f4, f5⟩ := hf it (by simp)
    refine (Walks.range (prog := X.prog) (w := X.w) (I.ok.hd hc) it lo c n).item i s _ _ hg st fun v h' tk hv st' kk => ?_
    obtain ⟨t, rfl⟩ := hv
    have I1 : Inv X pins σ H { s with heap := h', toks := tk } := I.turned (fun b o hb e => kk b o (by simpa using hb) e) f0 f1 f3 f4 f5
    exact ⟨_, rfl, go_of (s := { s with heap := h', toks := tk }) (n := "range_iterator") st' rfl rfl (by decide) ⟨.int (lo + i * c), H, I1, ⟨t, rfl⟩, ⟨rfl, rfl⟩, st', fun b hb => (hf b hb).1⟩⟩
  done := by
    intro X hP hw hK hc i pins s σ H E I hf st hg
    subst hP hw hK
    obtain ⟨f0, f1, f2, f3, f4, f5⟩ := hf it (by simp)
    exact wpAny_pyNext_range_end (I.ok.hd hc) st (by have : n ≤ i := hg; omega) fun h' eb => ⟨rfl, I.turned (t' := s.toks) (fun b o hb e => eb b o hb e) f0 f1 f3 f4 f5⟩
  self := fun _ _ _ _ _ st h => wpAny_pyIter_rangeiter st h
section
variable {X : Cx} {tg : Expr}
def iStr (tl : TE) : TI := fun σ H R => tl σ H fun v H1 => ∃ x, v = .str x ∧ R (Its x) H1
theorem pi_str {l : Expr} {tl : TE} (hl : PE X l tl) : PI X tg l (iStr tl) := by
  intro pins s σ H R I h
  refine thn (hl pins s σ H _ I h) fun v s1 ⟨y, H1, I1, r1, q1⟩ => ?_
  obtain ⟨x, e, q⟩ := q1
  subst e
  obtain ⟨t, rfl⟩ := r1
  have fp1 : ∀ b ∈ [s1.heap.objs.size], FpOk X pins H1 b := fun b hb => by
    have e : b = s1.heap.objs.size := by simpa using hb
    subst e
    exact I1.fpOk (Nat.le_refl _) (I1.hok.fresh (Nat.le_refl _))
  cases ha : x.cps.all (· < 128)
  · exact wpAny_pyIter_wide ha ⟨s1.heap.objs.size, [s1.heap.objs.size], _, _, H1, rfl, I1.kept (t' := s1.toks) fun b o e => Heap.get?_push_of_some _ e, turn_str x t _ _ (.inr rfl), ⟨_, Heap.get?_push_size _ rfl, rfl, rfl⟩, fp1, q⟩
  · exact wpAny_pyIter_ascii ha ⟨s1.heap.objs.size, [s1.heap.objs.size], _, _, H1, rfl, I1.kept (t' := s1.toks) fun b o e => Heap.get?_push_of_some _ e, turn_str x t _ _ (.inl rfl), ⟨_, Heap.get?_push_size _ rfl, rfl, rfl⟩, fp1, q⟩
def iRng3 (ta : TA) : TI := fun σ H R => ta σ H fun vs H1 => ∃ i j c : Int, vs = [.int i, .int j, .int c] ∧ (-(2 ^ 60) ≤ i ∧ i < 2 ^ 60 ∧ -(2 ^ 60) ≤ j ∧ j < 2 ^ 60 ∧ 0 < c ∧ c < 1000) ∧ R (Itr3 i c (Builtin.Range.rangeSize i j c).toNat) H1
theorem pi_range3 {a b c : Expr} {ta : TA} {p pos : Pos} (hg : Gl X "range") (hm : X.mg "range" = none) (ha : PA X [a, b, c] ta) (hs : starEach [a, b, c] X.env = [(false, eval a X.env), (false, eval b X.env), (false, eval c X.env)] := by rfl)
    (hs2 : starEach [b, c] X.env = [(false, eval b X.env), (false, eval c X.env)] := by rfl) :
    PI X tg (.Call (.Name "range" p) [a, b, c] [] pos) (iRng3 ta) := by
  intro pins s σ H R I h
  refine Call_ (ld_blt I hg hm boot_range (PyProof.Rows.callWith_type1 (thn (ha pos pins s σ H _ I h) fun us s1 ⟨vs, H1, I1, r1, q1⟩ => ?_) (by rw [hs, hs2]) (by rw [hs2]; rfl)))
  obtain ⟨i, j, k, e, ⟨q1, q2, q3, q4, q5, q6⟩, q⟩ := q1
  subst e
  cases r1 with
  | cons r rr =>
  cases rr with
  | cons r' rr =>
  cases rr with
  | cons r'' rr =>
  cases rr
  obtain ⟨t, rfl⟩ := r
  obtain ⟨t', rfl⟩ := r'
  obtain ⟨t'', rfl⟩ := r''
  have hd0 : (0 : Int) ≤ (j - i - 1) / k ∨ ¬ i < j := by
    by_cases hij : i < j
    · exact .inl (Int.ediv_nonneg (by omega) (by omega))
    · exact .inr hij
  have hd1 : (j - i - 1) / k ≤ j - i - 1 ∨ ¬ i < j := by
    by_cases hij : i < j
    · exact .inl (Int.ediv_le_self _ (by omega))
    · exact .inr hij
  have hsz : 0 ≤ Builtin.Range.rangeSize i j k ∧ Builtin.Range.rangeSize i j k ≤ 2 ^ 61 := by
    unfold Builtin.Range.rangeSize
    rw [if_pos (by omega)]
    split
    · constructor <;> omega
    · constructor <;> omega
  refine call_range_3 (by omega) ?_ (.inl (PyProof.noPylong_small (by omega)))
  refine wpAny_pyIter_range (IsRange.new ..) ?_ ?_
  · unfold Builtin.Range.small
    simp only [Builtin.Range.rangeFitsLong, Bool.and_eq_true, Bool.or_eq_true, decide_eq_true_eq, beq_iff_eq, show k > 0 from q5, if_true]
    omega
  have I2 : Inv X pins σ H1 { s1 with heap := s1.heap.push { cls := .type "range", data := .fields #[.int i t, .int j t', .int k t''] }, toks := s1.toks } := I1.kept fun b o e => Heap.get?_push_of_some _ e
  refine ⟨(s1.heap.push { cls := .type "range", data := .fields #[.int i t, .int j t', .int k t''] }).objs.size, [(s1.heap.push { cls := .type "range", data := .fields #[.int i t, .int j t', .int k t''] }).objs.size], _, _, H1, rfl,
    I2.kept (t' := s1.toks) fun b o e => Heap.get?_push_of_some _ e, turn_range3 _ i k (Builtin.Range.rangeSize i j k).toNat, ?_, fun b hb => ?_, q⟩
  · have e1 : i + ((0 : Nat) : Int) * k = i := by simp
    have e2 : (((Builtin.Range.rangeSize i j k).toNat : Nat) : Int) - ((0 : Nat) : Int) = Builtin.Range.rangeSize i j k := by omega
    show IsRangeIter _ _ (i + ((0 : Nat) : Int) * k) ((((Builtin.Range.rangeSize i j k).toNat : Nat) : Int) - ((0 : Nat) : Int)) k
    rw [e1, e2]
    exact Heap.get?_push_size _ rfl
  · have e : b = (s1.heap.push { cls := .type "range", data := .fields #[.int i t, .int j t', .int k t''] }).objs.size := by simpa using hb
    subst e
    exact I2.fpOk (Nat.le_refl _) (I2.hok.fresh (Nat.le_refl _))
theorem boolsAre_of {bs : List Bool} : ∀ {us : List Value}, Vals (bs.map V.bl) us → us = bs.map Value.bool := by
  induction bs with
  | nil => intro us r; cases r; rfl
  | cons b r ih =>
    intro us h
    cases h with
    | cons h1 h2 => cases h1; rw [ih h2]; rfl
theorem call_all (hc : X.calm = true) : CallR X (.builtin "all") (fun xs H Q => ∃ (p : Addr) (bs : List Bool), xs = [.ref p] ∧ SqL X.K H p (bs.map V.bl) ∧ Q (.bl (bs.all id)) H) := by
  intro pins s σ H xs us Q I r h
  obtain ⟨p, bs, rfl, hq, q⟩ := h
  obtain ⟨u, rfl, ru⟩ := vals1 r
  cases ru
  obtain ⟨its, r', pl, hz⟩ := I.list hq
  obtain rfl := boolsAre_of r'
  have hlt : p < s.heap.objs.size := by obtain ⟨_, _, e, _⟩ := pl; exact Heap.lt_size e
  refine call_all_walk (wpAny_pyIter_list pl.isList ?_)
  refine ⟨s.heap.objs.size, [s.heap.objs.size, p], [s.heap.objs.size], (bs.map Value.bool).toArray.size, _, _, fun i => (bs[i]?).getD true, rfl, Walks.list (A := X.A.in1) (I.ok.hd hc) _ p (Nat.ne_of_lt hlt) (bs.map Value.bool).toArray,
    ⟨⟨_, Heap.get?_push_size _ rfl, rfl, rfl⟩, pl.isList.push _⟩, fun i v s' Q' E' hP hQ => ?_, fun h' tk hk => ?_⟩
  · have hP' : (bs.map Value.bool)[i]? = some v := by simpa using hP
    rw [List.getElem?_map] at hP'
    obtain ⟨b, e, rfl⟩ := Option.map_eq_some_iff.mp hP'
    simp only [e, Option.getD_some] at hQ
    exact wpAny_truthy_bool hQ
  · have e : ((List.range (bs.map Value.bool).toArray.size).all fun i => (bs[i]?).getD true) = bs.all id := by
      rw [List.size_toArray, List.length_map]; exact LSm.range_all bs
    rw [e]
    exact ⟨.bl _, H, I.kept (LSm.kept_iter hk), rfl, q⟩
theorem call_int_text : CallR X (.type "int") (fun xs H Q => ∃ (x : Str) (n : Int), xs = [.str x] ∧ intText? x = some n ∧ x.length ≤ 640 ∧ Q (.int n) H) := by
  intro pins s σ H xs us Q I r h
  obtain ⟨x, n, rfl, hx, hl, q⟩ := h
  obtain ⟨u, rfl, t, rfl⟩ := vals1 r
  exact PySem.W.KIN.call_text hx hl ⟨.int n, H, I.tok _, ⟨_, rfl⟩, q⟩
theorem sl_listK {K : PySem.W.Frag} (h : X.K = K) : SlR X (rSlL K) := h ▸ sl_list
end
end L2
set_option Elab.async false
set_option linter.all false
set_option maxRecDepth 100000
set_option maxHeartbeats 4000000
namespace L2
open PySem PySem.Spec PyProof.Rows
def PairAt (H : Hp) (v : V) (d : Str × Str) : Prop := ∃ p, v = .ref p ∧ H p = some (.tup [.str d.1, .str d.2]) ∧ NameOk d.1 ∧ NameOk d.2
abbrev Pairs (H : Hp) : List V → List (Str × Str) → Prop := Paired (PairAt H)
theorem PairAt.mono {H H' : Hp} (s : Tups H H') {v : V} {t : Str × Str} (h : PairAt H v t) : PairAt H' v t := by
  obtain ⟨p, e, h, o⟩ := h
  exact ⟨p, e, s p _ h, o⟩
theorem Pairs.mono {H H' : Hp} (s : Tups H H') {vs : List V} {ts : List (Str × Str)} (h : Pairs H vs ts) : Pairs H' vs ts := Paired.mapP h fun _ _ q => q.mono s
theorem Pairs.ok {H : Hp} : ∀ {vs : List V} {ts : List (Str × Str)}, Pairs H vs ts → ∀ p ∈ ts, NameOk p.1 ∧ NameOk p.2
  | _, _, .nil, p, hp => by simp at hp
  | _, _, .cons ⟨_, _, _, o⟩ t, p, hp => by
    rcases List.mem_cons.mp hp with z | z
    · rw [z]; exact o
    · exact Pairs.ok t p z
structure PairsAt (H : Hp) (t : Addr) (ps : List (Str × Str)) : Prop where
  ex : ∃ vs, H t = some (.tup vs) ∧ Pairs H vs ps
  hi : ps.length ≤ 6
theorem PairsAt.mono {H H' : Hp} (s : Tups H H') {t : Addr} {ts : List (Str × Str)} (h : PairsAt H t ts) : PairsAt H' t ts := by
  obtain ⟨⟨vs, h1, h2⟩, hi⟩ := h
  exact ⟨⟨vs, s t _ h1, h2.mono s⟩, hi⟩
def pairW : List (Str × Str) → List Str
  | [] => []
  | (g, o) :: r => g :: "as" :: o :: pairW r
theorem pairW_snoc (g o : Str) : ∀ ps, pairW (ps ++ [(g, o)]) = pairW ps ++ [g, "as", o]
  | [] => rfl
  | (a, b) :: r => by
    show a :: "as" :: b :: pairW (r ++ [(g, o)]) = _
    rw [pairW_snoc g o r]
    rfl
theorem pairW_len : ∀ ps, (pairW ps).length = 3 * ps.length
  | [] => rfl
  | (a, b) :: r => by
    show (pairW r).length + 1 + 1 + 1 = _
    rw [pairW_len r]
    simp only [List.length_cons]; omega
theorem pairW_ok : ∀ {ps : List (Str × Str)}, (∀ p ∈ ps, NameOk p.1 ∧ NameOk p.2) → ∀ x ∈ pairW ps, WordOk x
  | [], _, x, hx => by simp [pairW] at hx
  | (a, b) :: r, h, x, hx => by
    have hx' : x ∈ a :: "as" :: b :: pairW r := hx
    have h0 := h (a, b) List.mem_cons_self
    rcases List.mem_cons.mp hx' with z | z
    · rw [z]; exact h0.1.word
    · rcases List.mem_cons.mp z with z | z
      · rw [z]; decide +kernel
      · rcases List.mem_cons.mp z with z | z
        · rw [z]; exact h0.2.word
        · exact pairW_ok (fun p hp => h p (List.mem_cons_of_mem _ hp)) x z
def optV : Option Str → V
  | none => .non
  | some x => .str x
def whenW : Option Str → List Str
  | none => []
  | some x => ["when", x]
def OptOk (o : Option Str) : Prop := ∀ x, o = some x → NameOk x
theorem whenW_ok {o : Option Str} (h : OptOk o) : ∀ x ∈ whenW o, WordOk x := by
  cases o with
  | none => intro x hx; simp [whenW] at hx
  | some y =>
    intro x hx
    have hx' : x ∈ (["when", y] : List Str) := hx
    rcases List.mem_cons.mp hx' with z | z
    · rw [z]; decide +kernel
    · rw [List.mem_singleton.mp z]; exact (h y rfl).word
theorem whenW_len (o : Option Str) : (whenW o).length ≤ 2 := by
  cases o with
  | none => exact Nat.zero_le _
  | some x => exact Nat.le_refl _
structure SumOk (ts : List (Int × Th)) : Prop where
  lo : 1 ≤ ts.length
  hi : ts.length ≤ 6
  th : ∀ p ∈ ts, ThOk p.2
  sg : ∀ p ∈ ts, p.1 = 1 ∨ p.1 = -1
  hd : ∀ p, ts.head? = some p → p.1 = 1
inductive Rw where
  | bring (p : Str) (ps : List (Str × Str))
  | give (o g : Str)
  | set (o : Str) (ts : List (Int × Th))
  | take (o : Str)
  | say (ts : List (Int × Th)) (w : Option Str)
  | need (ts : List (Int × Th))
  | ask (p : Str) (w : Option Str)
  | part (p : Str)
  | doo (p : Str)
def rowW : Rw → List Str
  | .bring p ps => "bring" :: p :: pairW ps
  | .give o g => ["give", o, "as", g]
  | .set o ts => "set" :: o :: "=" :: sumW ts
  | .take o => ["take", o]
  | .say ts w => "say" :: (sumW ts ++ whenW w)
  | .need ts => "need" :: sumW ts
  | .ask p w => "ask" :: p :: whenW w
  | .part p => ["part", p]
  | .doo p => ["do", p]
def RwOk : Rw → Prop
  | .bring p ps => NameOk p ∧ ps.length ≤ 6 ∧ ∀ q ∈ ps, NameOk q.1 ∧ NameOk q.2
  | .give o g => NameOk o ∧ NameOk g
  | .set o ts => NameOk o ∧ SumOk ts
  | .take o => NameOk o
  | .say ts w => SumOk ts ∧ OptOk w
  | .need ts => SumOk ts
  | .ask p w => NameOk p ∧ OptOk w
  | .part p => NameOk p
  | .doo p => NameOk p
def RowAt (H : Hp) (r : Addr) : Rw → Prop
  | .bring p ps => ∃ t, H r = some (.tup [.str "bring", .str p, .ref t]) ∧ PairsAt H t ps
  | .give o g => H r = some (.tup [.str "give", .str o, .str g])
  | .set o ts => ∃ t, H r = some (.tup [.str "set", .str o, .ref t]) ∧ TermsAt H t ts
  | .take o => H r = some (.tup [.str "take", .str o])
  | .say ts w => ∃ t, H r = some (.tup [.str "say", .ref t, optV w]) ∧ TermsAt H t ts
  | .need ts => ∃ t, H r = some (.tup [.str "need", .ref t]) ∧ TermsAt H t ts
  | .ask p w => H r = some (.tup [.str "ask", .str p, optV w])
  | .part p => H r = some (.tup [.str "part", .str p])
  | .doo p => H r = some (.tup [.str "do", .str p])
theorem RowAt.mono {H H' : Hp} (s : Tups H H') {r : Addr} {rw : Rw} (h : RowAt H r rw) : RowAt H' r rw := by
  cases rw with
  | bring p ps => obtain ⟨t, h1, h2⟩ := h; exact ⟨t, s _ _ h1, h2.mono s⟩
  | give o g => exact s _ _ h
  | set o ts => obtain ⟨t, h1, h2⟩ := h; exact ⟨t, s _ _ h1, h2.mono s⟩
  | take o => exact s _ _ h
  | say ts w => obtain ⟨t, h1, h2⟩ := h; exact ⟨t, s _ _ h1, h2.mono s⟩
  | need ts => obtain ⟨t, h1, h2⟩ := h; exact ⟨t, s _ _ h1, h2.mono s⟩
  | ask p w => exact s _ _ h
  | part p => exact s _ _ h
  | doo p => exact s _ _ h
theorem wordsOk_cons {x : Str} {ws : List Str} (h : WordOk x) (hw : ∀ y ∈ ws, WordOk y) : ∀ y ∈ x :: ws, WordOk y := fun y hy => by
  rcases List.mem_cons.mp hy with z | z
  · rw [z]; exact h
  · exact hw y z
theorem wordsOk_app {vs ws : List Str} (h : ∀ y ∈ vs, WordOk y) (hw : ∀ y ∈ ws, WordOk y) : ∀ y ∈ vs ++ ws, WordOk y := fun y hy => by
  rcases List.mem_append.mp hy with z | z
  · exact h y z
  · exact hw y z
theorem wordsOk_nil : ∀ y ∈ ([] : List Str), WordOk y := fun y hy => by simp at hy
structure WordsOk (ws : List Str) : Prop where
  ok : ∀ x ∈ ws, WordOk x
  lo : 2 ≤ ws.length
  hi : ws.length ≤ 20
theorem RwOk.words {rw : Rw} (h : RwOk rw) : WordsOk (rowW rw) := by
  cases rw with
  | bring p ps =>
    obtain ⟨h1, h2, h3⟩ := h
    have := pairW_len ps
    refine ⟨wordsOk_cons (by decide +kernel) (wordsOk_cons h1.word (pairW_ok h3)), ?_, ?_⟩ <;> simp only [rowW, List.length_cons] <;> omega
  | give o g =>
    refine ⟨wordsOk_cons (by decide +kernel) (wordsOk_cons h.1.word (wordsOk_cons (by decide +kernel) (wordsOk_cons h.2.word wordsOk_nil))), ?_, ?_⟩ <;> simp [rowW]
  | set o ts =>
    have := sumW_len h.2.lo
    have := h.2.hi
    refine ⟨wordsOk_cons (by decide +kernel) (wordsOk_cons h.1.word (wordsOk_cons (by decide +kernel) (sumW_ok h.2.th))), ?_, ?_⟩ <;> simp only [rowW, List.length_cons] <;> omega
  | take o => refine ⟨wordsOk_cons (by decide +kernel) (wordsOk_cons (NameOk.word h) wordsOk_nil), ?_, ?_⟩ <;> simp [rowW]
  | say ts w =>
    have := sumW_len h.1.lo
    have := h.1.hi
    have := h.1.lo
    have := whenW_len w
    refine ⟨wordsOk_cons (by decide +kernel) (wordsOk_app (sumW_ok h.1.th) (whenW_ok h.2)), ?_, ?_⟩ <;> simp only [rowW, List.length_cons, List.length_append] <;> omega
  | need ts =>
    have h' : SumOk ts := h
    have := sumW_len h'.lo
    have := h'.hi
    have := h'.lo
    refine ⟨wordsOk_cons (by decide +kernel) (sumW_ok h'.th), ?_, ?_⟩ <;> simp only [rowW, List.length_cons] <;> omega
  | ask p w =>
    have := whenW_len w
    refine ⟨wordsOk_cons (by decide +kernel) (wordsOk_cons h.1.word (whenW_ok h.2)), ?_, ?_⟩ <;> simp only [rowW, List.length_cons] <;> omega
  | part o => refine ⟨wordsOk_cons (by decide +kernel) (wordsOk_cons (NameOk.word h) wordsOk_nil), ?_, ?_⟩ <;> simp [rowW]
  | doo o => refine ⟨wordsOk_cons (by decide +kernel) (wordsOk_cons (NameOk.word h) wordsOk_nil), ?_, ?_⟩ <;> simp [rowW]
theorem weight_ok {ws : List Str} (h : WordsOk ws) : (ws.map (·.length)).sum ≤ 61 * ws.length := by
  have : ∀ (l : List Str), (∀ x ∈ l, WordOk x) → (l.map (·.length)).sum ≤ 61 * l.length := by
    intro l
    induction l with
    | nil => intro _; simp
    | cons x r ih =>
      intro hl
      have h1 := (hl x List.mem_cons_self).len
      have h2 := ih fun y hy => hl y (List.mem_cons_of_mem _ hy)
      simp only [List.map_cons, List.sum_cons, List.length_cons]; omega
  exact this ws h.ok
theorem blank : (" " : Str) = ⟨#[32]⟩ := by decide +kernel
theorem split_words {ws : List Str} (h : WordsOk ws) : Txt.split (Str.join " " ws) " " = ws := by
  rw [blank]
  exact split_join (by intro z; have := h.lo; rw [z] at this; simp at this) fun y hy => (h.ok y hy).nb
theorem join_len {ws : List Str} (h : WordsOk ws) : (Str.join " " ws).length ≤ 1300 := by
  have h1 := StrLaws.join_length_le " " ws
  have h2 := weight_ok h
  have h3 := h.hi
  have hbl : (" " : Str).length = 1 := by decide +kernel
  rw [hbl] at h1
  omega
theorem let_mem (c : Nat) : decide (c ∈ ("abcdefghijklmnopqrstuvwxyz" : Str).cps.toList) = isLet c := by
  have e : ("abcdefghijklmnopqrstuvwxyz" : Str).cps.toList = [97, 98, 99, 100, 101, 102, 103, 104, 105, 106, 107, 108, 109, 110, 111, 112, 113, 114, 115, 116, 117, 118, 119, 120, 121, 122] := by decide +kernel
  rw [e]
  unfold isLet
  rw [Bool.eq_iff_iff]
  simp only [decide_eq_true_eq, Bool.and_eq_true, List.mem_cons, List.not_mem_nil, or_false]
  omega
theorem fig_mem (c : Nat) : decide (c ∈ ("0123456789" : Str).cps.toList) = isFig c := by
  have e : ("0123456789" : Str).cps.toList = [48, 49, 50, 51, 52, 53, 54, 55, 56, 57] := by decide +kernel
  rw [e]
  unfold isFig
  rw [Bool.eq_iff_iff]
  simp only [decide_eq_true_eq, Bool.and_eq_true, List.mem_cons, List.not_mem_nil, or_false]
  omega
theorem in_let (c : Nat) : (!(Builtin.Str.occurrences ("abcdefghijklmnopqrstuvwxyz" : Str) ⟨#[c]⟩ 0 ("abcdefghijklmnopqrstuvwxyz" : Str).length 1).isEmpty) = isLet c := by
  rw [StrLaws.found_one]; exact let_mem c
theorem in_fig (c : Nat) : (!(Builtin.Str.occurrences ("0123456789" : Str) ⟨#[c]⟩ 0 ("0123456789" : Str).length 1).isEmpty) = isFig c := by
  rw [StrLaws.found_one]; exact fig_mem c
def isNumL (l : List Nat) : Bool := decide (1 ≤ l.length) && decide (l.length ≤ 60) && !(decide (l.head? = some 48) && !decide (l = [48])) && l.all isFig
theorem digits_head : ∀ (m : Nat) (c : Char) (r : List Char), Nat.toDigits 10 m = c :: r → c = '0' → r = [] := by
  intro m
  induction m using Nat.strongRecOn with
  | _ m ih =>
    intro c r h hc
    by_cases hm : m < 10
    · rw [Nat.toDigits_of_lt_base hm] at h
      cases h
      rfl
    · rw [Nat.toDigits_of_base_le (by decide) (by omega)] at h
      cases e : Nat.toDigits 10 (m / 10) with
      | nil =>
        have := PySem.W.KIN.val_back (m / 10)
        rw [e] at this
        simp [NumText.digitsVal] at this
        omega
      | cons d q =>
        rw [e] at h
        have h' : d :: (q ++ [(m % 10).digitChar]) = c :: r := h
        cases h'
        have hq := ih (m / 10) (by omega) c q e hc
        have hv := PySem.W.KIN.val_back (m / 10)
        rw [e, hq, hc] at hv
        have : (0 : Nat) = m / 10 := by simpa [NumText.digitsVal] using hv
        omega
theorem num_isNum {n : Int} (h : ThOk (.num n)) : isNumL (thS (.num n)).cps.toList = true := by
  obtain ⟨e, hl⟩ := num_text h.1 h.2
  have e' : (thS (.num n)).cps.toList = (Nat.toDigits 10 n.toNat).map Char.toNat := e
  rw [e']
  have hpos : Nat.toDigits 10 n.toNat ≠ [] := by
    intro z
    by_cases hm : n.toNat < 10
    · rw [Nat.toDigits_of_lt_base hm] at z; simp at z
    · rw [Nat.toDigits_of_base_le (by decide) (by omega)] at z; simp at z
  have hpos' : 1 ≤ (Nat.toDigits 10 n.toNat).length := by
    cases q : Nat.toDigits 10 n.toNat with
    | nil => exact absurd q hpos
    | cons a b => simp
  unfold isNumL
  simp only [Bool.and_eq_true, decide_eq_true_eq, List.length_map, List.all_eq_true, Bool.not_eq_true', Bool.and_eq_false_iff, decide_eq_false_iff_not]
  refine ⟨⟨⟨hpos', hl⟩, ?_⟩, fun c hc => ?_⟩
  · by_cases hz : ((Nat.toDigits 10 n.toNat).map Char.toNat).head? = some 48
    · refine .inr ?_
      cases q : Nat.toDigits 10 n.toNat with
      | nil => exact absurd q hpos
      | cons a b =>
        rw [q] at hz
        have ha : a.toNat = 48 := by simpa using hz
        have ha' : a = '0' := Char.toNat_inj.mp (by rw [ha]; decide)
        rw [digits_head _ _ _ q ha', ha']
        simp
    · exact .inl hz
  · have := digit_range _ c hc
    unfold isFig
    simp; omega
theorem name_notNum {x : Str} (h : NameOk x) : isNumL x.cps.toList = false := by
  unfold NameOk at h
  cases e : x.cps.toList with
  | nil => rw [e] at h; exact absurd (show false = true from h) Bool.false_ne_true
  | cons c r =>
    rw [e] at h
    have h' : (isLet c && r.all isSg && decide (r.length ≤ 7)) = true := h
    simp only [Bool.and_eq_true, decide_eq_true_eq] at h'
    unfold isNumL
    have hf : isFig c = false := by
      have := h'.1.1
      unfold isLet at this
      unfold isFig
      simp only [Bool.and_eq_true, decide_eq_true_eq] at this
      simp; omega
    rw [List.all_cons, hf]
    simp
theorem num_reads {n : Int} (h : ThOk (.num n)) : intText? (thS (.num n)) = some n ∧ (thS (.num n)).length ≤ 640 := by
  obtain ⟨e, hl⟩ := num_text h.1 h.2
  have e' : (thS (.num n)).cps.toList = (Nat.toDigits 10 n.toNat).map Char.toNat := e
  have hlen : (thS (.num n)).length = (thS (.num n)).cps.toList.length := by simp [Str.length]
  have hlen' : (thS (.num n)).length ≤ 60 := by rw [hlen, e', List.length_map]; exact hl
  have hne : (thS (.num n)).cps.toList ≠ [] := by
    have := num_isNum h
    intro z
    rw [z] at this
    exact absurd this (by decide)
  have hd : NumText.AllDigits (thS (.num n)).cps.toList := fun c hc => by
    rw [e'] at hc
    exact digit_range _ c hc
  have h3 := PySem.intText_digits hd hne (by omega)
  rw [e', PySem.W.KIN.val_back] at h3
  exact ⟨by rw [h3]; congr 1; have := h.1; omega, by omega⟩
end L2
set_option Elab.async false
set_option linter.all false
set_option maxRecDepth 100000
set_option maxHeartbeats 4000000
namespace XC
open PySem
abbrev frsOf (l : List Env) : List Addr := l.filterMap (·.frame)
def Tr (h : Heap) (e : Addr) (cls : Value) (dd : Option Addr) (T : Addr) (fl : Value) : Prop :=
  ∃ oe vs oT ts, h.get? e = some oe ∧ oe.cls = cls ∧ oe.dict = dd ∧ oe.data = .fields vs ∧ vs[1]? = some (.ref T) ∧ T ≠ e ∧ h.get? T = some oT ∧ oT.data = .fields ts ∧ ts[3]? = some fl
structure Gone (l : List Env) (e : Addr) (ts : List Addr) (h h' : Heap) : Prop where
  keep : ∀ b o, h.get? b = some o → b ≠ e → b ∉ ts → b ∉ frsOf l → h'.get? b = some o
  slot : ∀ b o, h.get? b = some o → b ∈ frsOf l → ∃ sl, h'.get? b = some { o with slots := sl }
section
variable {M : Model} {A : Around} {E : Value → Shared → Prop} {s : Shared}
theorem frames_free {h base : Heap} {l : List Env} (g : h.FunFrames base l) : ∀ b ∈ frsOf l, base.get? b = none ∧ ∃ o, h.get? b = some o ∧ ∀ vs, o.data ≠ .fields vs := fun b hb => by
  obtain ⟨h1, o, h2, h3⟩ := g.mem hb
  exact ⟨h1, o, h2, h3⟩
theorem dict_map {o : Obj} {f : Array Value → Array Value} {vs : Array Value} (hd : o.data = .fields vs) : (o.mapFields f).dict = o.dict := by
  obtain ⟨c, d, dt, sl⟩ := o
  subst hd
  rfl
theorem entry_ok {base : Heap} {env : Env} {outer : List Env} {L e : Addr} {oe : Obj} {vs : Array Value} {head : Value} {had : Bool} {Q : Unit → Shared → Prop}
    (hfr : A.frames = some (env :: outer)) (hl : s.heap.FunFrames base (env :: outer)) (hf : env.frame = some L) (he : s.heap.get? e = some oe) (hd : oe.data = .fields vs) (hz : 1 < vs.size)
    (h : ∀ h' T, Gone (env :: outer) e [] s.heap h' → s.heap.get? T = none → Tr h' e oe.cls oe.dict T (rawInt L) → Q () { s with heap := h' }) :
    wpAny M A (do let a ← frameOf env; let p ← entryPlaceOf L had; let b ← EntryCells.newEntry head a .none (rawInt L) .none p; setField (.ref e) 1 b) Q E s := by
  have ne : e ∉ frsOf (env :: outer) := fun z => by
    obtain ⟨_, o, q, n⟩ := frames_free hl e z
    rw [he] at q
    cases q
    exact n vs hd
  refine wpAny_bind (wpAny_frameOf_fun hfr hl hf fun g S => wpAny_bind (wpAny_entryPlaceOf fun p hp => ?_))
  unfold EntryCells.newEntry newFields
  refine wpAny_bind (wpAny_newObj_type ?_ (hp.sizeOk5 _ _ _ _ _))
  generalize ht : ([head, Value.ref L, Value.none, rawInt L, Value.none] ++ (if p.isEmpty then List.replicate 6 Value.none else p)).toArray = tv
  have h3 : tv[3]? = some (rawInt L) := by rw [← ht]; simp
  have g1 : g.get? e = some oe := (S.2.1 e ne).trans he
  have te : g.objs.size ≠ e := Nat.ne_of_gt (Heap.lt_size g1)
  have d2 := Obj.data_mapFields hd (·.setIfInBounds 1 (Value.ref g.objs.size))
  have g2 := Heap.get?_push_of_some { cls := .type "traceback", dict := none, data := .fields tv } g1
  refine wpAny_setField g2 hd hz (h _ g.objs.size ⟨fun b o q z _ w => ?_, fun b o q w => ?_⟩ (Heap.get?_none_of_le (by rw [S.1]; exact Nat.le_refl _)) ?_)
  · rw [Heap.get?_update_other _ _ (Ne.symm z)]
    exact Heap.get?_push_of_some _ ((S.2.1 b w).trans q)
  · obtain ⟨sl, q2⟩ := S.2.2 b o q
    have z : b ≠ e := fun z => ne (z ▸ w)
    exact ⟨sl, by rw [Heap.get?_update_other _ _ (Ne.symm z)]; exact Heap.get?_push_of_some _ q2⟩
  · refine ⟨_, _, { cls := .type "traceback", dict := none, data := .fields tv }, tv, Heap.get?_update_self _ g2 (Obj.isFreed_of_fields d2), Obj.cls_mapFields _ _, dict_map hd, d2, ?_, te, ?_, rfl, h3⟩
    · rw [Array.getElem?_setIfInBounds_self, if_pos hz]
    · rw [Heap.get?_update_other _ _ (Ne.symm te)]
      exact Heap.get?_push_size _ rfl
theorem note_first {base : Heap} {env : Env} {outer : List Env} {L e : Addr} {oe : Obj} {vs : Array Value} {Q : Unit → Shared → Prop}
    (hfr : A.frames = some (env :: outer)) (hl : s.heap.FunFrames base (env :: outer)) (hf : env.frame = some L) (he : s.heap.get? e = some oe) (hd : oe.data = .fields vs) (h1 : vs[1]? = some .none)
    (h : ∀ h' T, Gone (env :: outer) e [] s.heap h' → s.heap.get? T = none → Tr h' e oe.cls oe.dict T (rawInt L) → Q () { s with heap := h' }) : wpAny M A (noteFrame (.ref e) env) Q E s := by
  unfold noteFrame
  simp only [hf]
  refine wpAny_bind (wpAny_field he hd h1 ?_)
  rw [if_neg (by decide)]
  exact entry_ok hfr hl hf he hd (Array.getElem?_eq_some_iff.mp h1).1 h
theorem flight_at {h : Heap} {e T : Addr} {cls fl x : Value} {dd : Option Addr} (ht : Tr h e cls dd T fl) :
    (∀ b o, b ≠ T → h.get? b = some o → (h.update T (Obj.mapFields (·.setIfInBounds 3 x))).get? b = some o) ∧ Tr (h.update T (Obj.mapFields (·.setIfInBounds 3 x))) e cls dd T x := by
  obtain ⟨oe, vs, oT, ts, h1, h2, h2', h3, h4, h5, h6, h7, h8⟩ := ht
  have hz : 3 < ts.size := (Array.getElem?_eq_some_iff.mp h8).1
  have d2 := Obj.data_mapFields h7 (·.setIfInBounds 3 x)
  refine ⟨fun b o z q => by rw [Heap.get?_update_other _ _ (Ne.symm z)]; exact q, oe, vs, _, _, ?_, h2, h2', h3, h4, h5, Heap.get?_update_self _ h6 (Obj.isFreed_of_fields d2), d2, ?_⟩
  · rw [Heap.get?_update_other _ _ h5]
    exact h1
  · rw [Array.getElem?_setIfInBounds_self, if_pos hz]
theorem note_next {base : Heap} {env : Env} {outer : List Env} {L e T : Addr} {cls : Value} {dd : Option Addr} {Q : Unit → Shared → Prop}
    (hfr : A.frames = some (env :: outer)) (hl : s.heap.FunFrames base (env :: outer)) (hf : env.frame = some L) (ht : Tr s.heap e cls dd T .none)
    (h : ∀ h' T', Gone (env :: outer) e [T] s.heap h' → s.heap.get? T' = none → Tr h' e cls dd T' (rawInt L) → Q () { s with heap := h' }) : wpAny M A (noteFrame (.ref e) env) Q E s := by
  obtain ⟨k1, oe, vs, oT, ts, a1, a2, a2', a3, a4, a5, a6, a7, a8⟩ := flight_at (x := .none) ht
  obtain ⟨oe0, vs0, oT0, ts0, h1, h2, h2', h3, h4, h5, h6, h7, h8⟩ := ht
  unfold noteFrame
  simp only [hf]
  refine wpAny_bind (wpAny_field h1 h3 h4 ?_)
  rw [if_pos (show (Value.ref T != Value.none) = true from by simp)]
  refine wpAny_bind (wpAny_field h6 h7 h8 ?_)
  rw [if_neg (show ¬ ((Value.none == rawInt L) = true) from by simp [rawInt])]
  have nT : T ∉ frsOf (env :: outer) := fun z => by
    obtain ⟨_, o, q, n⟩ := frames_free hl T z
    rw [h6] at q
    cases q
    exact n ts0 h7
  have nt : ∀ b o, s.heap.get? b = some o → (∀ vs, o.data ≠ .fields vs) → b ≠ T := fun b o q n z => by
    rw [z, h6] at q
    cases q
    exact n ts0 h7
  refine wpAny_bind (wpAny_setField h6 h7 (Array.getElem?_eq_some_iff.mp h8).1 ?_)
  refine entry_ok hfr (hl.of_keeps fun b o q n => ⟨o, k1 b o (nt b o q n) q, rfl⟩) hf a1 a3 (Array.getElem?_eq_some_iff.mp a4).1 fun h' T' G n t => ?_
  refine h h' T' ⟨fun b o q z w u => G.keep b o (k1 b o (fun z => w (by rw [z]; exact List.mem_singleton_self _)) q) z (by simp) u, fun b o q w => G.slot b o (k1 b o (fun z => nT (z ▸ w)) q) w⟩ ?_ (by rw [← a2, ← a2']; exact t)
  cases q : s.heap.get? T' with
  | none => rfl
  | some o =>
    by_cases z : T' = T
    · rw [z, a6] at n
      cases n
    · rw [show (s.heap.update T (Obj.mapFields (·.setIfInBounds 3 Value.none))).get? T' = some o from k1 T' o z q] at n
      cases n
theorem note_same {env : Env} {L e T : Addr} {cls : Value} {dd : Option Addr} {Q : Unit → Shared → Prop} (hf : env.frame = some L) (ht : Tr s.heap e cls dd T (rawInt L)) (h : Q () s) :
    wpAny M A (noteFrame (.ref e) env) Q E s := by
  obtain ⟨oe, vs, oT, ts, h1, h2, h2', h3, h4, h5, h6, h7, h8⟩ := ht
  unfold noteFrame
  simp only [hf]
  refine wpAny_bind (wpAny_field h1 h3 h4 ?_)
  rw [if_pos (show (Value.ref T != Value.none) = true from by simp)]
  refine wpAny_bind (wpAny_field h6 h7 h8 ?_)
  rw [if_pos (show (rawInt L == rawInt L) = true from by simp)]
  exact wpAny_pure h
theorem fly_off {e T : Addr} {cls fl : Value} {dd : Option Addr} {Q : Unit → Shared → Prop} (ht : Tr s.heap e cls dd T fl)
    (h : ∀ h', (∀ b o, b ≠ T → s.heap.get? b = some o → h'.get? b = some o) → Tr h' e cls dd T .none → Q () { s with heap := h' }) : wpAny M A (setFlight (.ref e) none) Q E s := by
  obtain ⟨k, t⟩ := flight_at (x := .none) ht
  obtain ⟨oe, vs, oT, ts, h1, h2, h2', h3, h4, h5, h6, h7, h8⟩ := ht
  unfold setFlight
  refine wpAny_bind (wpAny_field h1 h3 h4 ?_)
  rw [if_pos (show (Value.ref T != Value.none) = true from by simp)]
  exact wpAny_setField h6 h7 (Array.getElem?_eq_some_iff.mp h8).1 (h _ k t)
theorem Gone.off {l : List Env} {e T : Addr} {ts : List Addr} {h h1 h2 : Heap} (G : Gone l e ts h h1) (k : ∀ b o, b ≠ T → h1.get? b = some o → h2.get? b = some o) (hT : h.get? T = none ∨ T ∈ ts) (nT : T ∉ frsOf l) : Gone l e ts h h2 := by
  refine ⟨fun b o q z w u => k b o (fun y => ?_) (G.keep b o q z w u), fun b o q w => ?_⟩
  · rcases hT with y2 | y2
    · rw [y, y2] at q; cases q
    · exact w (y ▸ y2)
  · obtain ⟨sl, q2⟩ := G.slot b o q w
    exact ⟨sl, k b _ (fun y => nT (y ▸ w)) q2⟩
theorem Tr.notIn {h base : Heap} {l : List Env} {e T : Addr} {cls fl : Value} {dd : Option Addr} (ht : Tr h e cls dd T fl) (g : h.FunFrames base l) : T ∉ frsOf l := fun z => by
  obtain ⟨oe, vs, oT, ts, h1, h2, h2', h3, h4, h5, h6, h7, h8⟩ := ht
  obtain ⟨_, o, q, n⟩ := frames_free g T z
  rw [h6] at q
  cases q
  exact n ts h7
theorem new_notIn {h base : Heap} {l : List Env} {T : Addr} (n : h.get? T = none) (g : h.FunFrames base l) : T ∉ frsOf l := fun z => by
  obtain ⟨_, o, q, _⟩ := frames_free g T z
  rw [n] at q
  cases q
theorem leave_first {base : Heap} {env : Env} {outer : List Env} {L e : Addr} {oe : Obj} {vs : Array Value} {Q : Unit → Shared → Prop}
    (hfr : A.frames = some (env :: outer)) (hl : s.heap.FunFrames base (env :: outer)) (hf : env.frame = some L) (he : s.heap.get? e = some oe) (hd : oe.data = .fields vs) (h1 : vs[1]? = some .none)
    (h : ∀ h' T, Gone (env :: outer) e [] s.heap h' → s.heap.get? T = none → Tr h' e oe.cls oe.dict T .none → Q () { s with heap := h' }) : wpAny M A (leaving env (.ref e)) Q E s := by
  unfold leaving
  exact wpAny_bind (note_first hfr hl hf he hd h1 fun h' T G n t => fly_off t fun h2 k t2 => h h2 T (G.off k (.inl n) (new_notIn n hl)) n t2)
theorem leave_next {base : Heap} {env : Env} {outer : List Env} {L e T : Addr} {cls : Value} {dd : Option Addr} {Q : Unit → Shared → Prop}
    (hfr : A.frames = some (env :: outer)) (hl : s.heap.FunFrames base (env :: outer)) (hf : env.frame = some L) (ht : Tr s.heap e cls dd T .none)
    (h : ∀ h' T', Gone (env :: outer) e [T] s.heap h' → s.heap.get? T' = none → Tr h' e cls dd T' .none → Q () { s with heap := h' }) : wpAny M A (leaving env (.ref e)) Q E s := by
  unfold leaving
  exact wpAny_bind (note_next hfr hl hf ht fun h' T' G n t => fly_off t fun h2 k t2 => h h2 T' (G.off k (.inl n) (new_notIn n hl)) n t2)
end
end XC
set_option Elab.async false
set_option linter.all false
set_option maxRecDepth 100000
set_option maxHeartbeats 4000000
namespace L2
open PySem PySem.Spec PyProof.Rows XC
def CXe (P : Program) (w : World) : CXT := fun outer H s E v s' => ∃ (a T : Addr) (cls : Value) (dd : Option Addr) (H' : Hp), v = .ref a ∧ s'.os = s.os ∧ AllBare s'.gens ∧ Un (frs outer) [] H H' s.heap s'.heap ∧ HOk P w H' s'.heap ∧ s.heap.get? a = none ∧ H' a = none ∧ Tr s'.heap a cls dd T .none ∧ s.heap.get? T = none ∧ H' T = none ∧ E cls dd H'
theorem HOk.gone {P : Program} {w : World} {h h' : Heap} {l : List Env} {e : Addr} {ts : List Addr} {H : Hp} (ok : HOk P w H h) (G : Gone l e ts h h') (he : H e = none) (hts : ∀ b ∈ ts, H b = none) (hf : ∀ b ∈ frs l, H b = none) : HOk P w H h' := fun b o q =>
  (ok b o q).stay (fun c u hc r => by
    have hH : H c ≠ none := by
      rcases hc with z | z
      · rw [z, q]; simp
      · rw [z]; simp
    exact G.keep c u r (fun z => hH (by rw [z]; exact he)) (fun z => hH (hts c z)) (fun z => hH (hf c z))) (fun _ q => q) fun _ _ q => q
theorem Un.gone {h0 h h' : Heap} {env : Env} {outer : List Env} {e : Addr} {ts : List Addr} {H0 H : Hp} (u : Un (frs outer) [] H0 H h0 h) (G : Gone (env :: outer) e ts h h') (he : h0.get? e = none) (hts : ∀ b ∈ ts, h0.get? b = none) (hF : ∀ L, env.frame = some L → h0.get? L = none) (hu : ∀ b ∈ frs outer, H0 b = none) : Un (frs outer) [] H0 H h0 h' := by
  have hfr : ∀ b o, h0.get? b = some o → b ∉ frs outer → b ∉ frsOf (env :: outer) := fun b o hb hn hm => by
    have hm : b ∈ (env :: outer).filterMap (·.frame) := hm
    rw [List.filterMap_cons] at hm
    cases ef : env.frame with
    | none => rw [ef] at hm; exact hn hm
    | some L =>
      rw [ef] at hm
      rcases List.mem_cons.mp hm with z | z
      · rw [z, hF L ef] at hb; cases hb
      · exact hn z
  have hin : ∀ b, b ∈ frs outer → b ∈ frsOf (env :: outer) := fun b hb => by
    show b ∈ (env :: outer).filterMap (·.frame)
    rw [List.filterMap_cons]
    cases env.frame with
    | none => exact hb
    | some L => exact List.mem_cons_of_mem _ hb
  have hne : ∀ b o, h0.get? b = some o → b ≠ e := fun b o hb z => by rw [z, he] at hb; cases hb
  have hnt : ∀ b o, h0.get? b = some o → b ∉ ts := fun b o hb z => by rw [hts b z] at hb; cases hb
  refine ⟨fun b o q n hf hx => G.keep b o (u.keep b o q n hf hx) (hne b o q) (hnt b o q) (hfr b o q hf), fun b o q n hf hx => ?_, u.free, fun b o q hx => ?_, u.tups, u.frzs, u.tbls⟩
  · obtain ⟨sl, h1⟩ := u.slot b o q n hf hx
    obtain ⟨sl', h2⟩ := G.slot b _ h1 (hin b hf)
    exact ⟨sl', h2⟩
  · by_cases hf : b ∈ frs outer
    · obtain ⟨sl, h1⟩ := u.slot b o q (hu b hf) hf hx
      obtain ⟨sl', h2⟩ := G.slot b _ h1 (hin b hf)
      exact ⟨_, h2⟩
    · obtain ⟨o', h1⟩ := u.there b o q hx
      exact ⟨o', G.keep b o' h1 (hne b o q) (hnt b o q) (hfr b o q hf)⟩
theorem ObjOk.there {P : Program} {w : World} {H : Hp} {h : Heap} {a : Addr} {o : HO} (x : ObjOk P w H h a o) : ∃ u, h.get? a = some u := by
  cases o with
  | lst xs => obtain ⟨_, _, _, _, e⟩ := x; exact ⟨_, e⟩
  | tup xs => obtain ⟨_, _, _, o, e, _⟩ := x; exact ⟨_, e⟩
  | dK kvs => obtain ⟨_, _, _, _, o, _, _, e, _⟩ := x; exact ⟨_, e⟩
  | dT kvs => obtain ⟨_, _, _, _, o, _, _, e, _⟩ := x; exact ⟨_, e⟩
  | set S n => obtain ⟨o, _, _, _, e, _⟩ := x; exact ⟨_, e⟩
  | ins C dx fs => obtain ⟨_, _, _, e, _⟩ := x; exact ⟨_, e⟩
  | own y => obtain ⟨_, e⟩ := x; exact ⟨_, e⟩
  | xd fs => obtain ⟨_, ⟨_, _, _, e, _⟩, _⟩ := x; exact ⟨_, e⟩
  | rng lo hi => obtain ⟨_, _, _, e⟩ := x; exact ⟨_, e⟩
  | frz ob u => obtain ⟨e, _⟩ := x; exact ⟨_, e⟩
  | tbl ps => exact ⟨_, x⟩
  | met f y => exact ⟨_, x⟩
  | ext φ => obtain ⟨_, ⟨_, e⟩, _⟩ := x; exact ⟨_, e⟩
theorem HOk.un_at {P : Program} {w : World} {h : Heap} {H : Hp} {a : Addr} (ok : HOk P w H h) (n : h.get? a = none) : H a = none := by
  cases q : H a with
  | none => rfl
  | some o => obtain ⟨u, e⟩ := (ok a o q).there; rw [n] at e; cases e
section
variable {P : Program} {w : World} {K : PySem.W.Frag} {mg : Str → Option Value} {base : Heap} {N : List Str} {qual : Str} {scope : Scope} {f : Addr} {cd : Value} {A : Around} {outer : List Env} {s : Shared} {H : Hp} {E : XK} {pins : List (Addr × Obj)} {σ : St} {H' : Hp} {s' : Shared}
theorem loc_new : ∀ L, (envOfC qual scope s.heap.objs.size f cd).frame = some L → s.heap.get? L = none := fun L e => by
  have e2 : L = s.heap.objs.size := (Option.some.inj e).symm
  rw [e2]
  cases q : s.heap.get? s.heap.objs.size with
  | none => rfl
  | some o => exact absurd (Heap.lt_size q) (Nat.lt_irrefl _)
theorem Inv.up {X : Cx} {s1 : Shared} {H1 : Hp} (I : Inv X pins σ H1 s1) (hx : X.ex = []) {b : Addr} (n : s1.heap.get? b = none) : X.s₀.heap.get? b = none := by
  cases q : X.s₀.heap.get? b with
  | none => rfl
  | some o =>
    obtain ⟨o', z⟩ := I.base.there b o q (by rw [hx]; intro z; cases z)
    rw [n] at z
    cases z
theorem fly_first (I : Inv (cxOf (CXe P w) P w K mg base N qual scope f cd A outer s H E) pins σ H' s') {a : Addr} {oe : Obj} {vs : Array Value} (he : s'.heap.get? a = some oe) (hd : oe.data = .fields vs) (h1 : vs[1]? = some .none) (new : s.heap.get? a = none) (fr : H' a = none) (hE : E oe.cls oe.dict H') :
    (cxOf (CXe P w) P w K mg base N qual scope f cd A outer s H E).xe (.ref a) s' := by
  refine leave_first (base := base) (L := s.heap.objs.size) I.ok.frames I.stack rfl he hd h1 fun h' T G hT ht => ?_
  exact ⟨a, T, oe.cls, oe.dict, H', rfl, I.os, I.bare, Un.gone I.base G new (fun b z => by cases z) loc_new I.ok.frf, HOk.gone I.hok G fr (fun b z => by cases z) I.stkFree, new, fr, ht, I.up rfl hT, HOk.un_at I.hok hT, hE⟩
theorem fly_next (I : Inv (cxOf (CXe P w) P w K mg base N qual scope f cd A outer s H E) pins σ H' s') {a T : Addr} {cls : Value} {dd : Option Addr} (ht : Tr s'.heap a cls dd T .none) (new : s.heap.get? a = none) (newT : s.heap.get? T = none) (fr : H' a = none) (frT : H' T = none) (hE : E cls dd H') :
    (cxOf (CXe P w) P w K mg base N qual scope f cd A outer s H E).xe (.ref a) s' := by
  refine leave_next (base := base) (L := s.heap.objs.size) I.ok.frames I.stack rfl ht fun h' T' G hT' ht' => ?_
  exact ⟨a, T', cls, dd, H', rfl, I.os, I.bare, Un.gone I.base G new (fun b z => by rw [List.mem_singleton.mp z]; exact newT) loc_new I.ok.frf, HOk.gone I.hok G fr (fun b z => by rw [List.mem_singleton.mp z]; exact frT) I.stkFree, new, fr, ht', I.up rfl hT', HOk.un_at I.hok hT', hE⟩
theorem passE : Passes (CXe P w) (cxOf (CXe P w) P w K mg base N qual scope f cd A outer s H E) E := fun pins σ H1 s1 v s2 I h => by
  obtain ⟨a, T, cls, dd, H2, rfl, os, bare, un, hok, new, fr, ht, newT, frT, hE⟩ := h
  have I2 := Inv.call' (ch := []) I os un hok bare (fun b z => by cases z)
  exact fly_next I2 ht (I.up rfl new) (I.up rfl newT) fr frT hE
theorem passOwn : PassesOwn (model P w) (cxOf (CXe P w) P w K mg base N qual scope f cd A outer s H E).A (cxOf (CXe P w) P w K mg base N qual scope f cd A outer s H E).env (cxOf (CXe P w) P w K mg base N qual scope f cd A outer s H E).xe := PassesOwn.leaving
end
structure ClE (P : Program) (w : World) (K : PySem.W.Frag) (mg : Str → Option Value) (base : Heap) (k : Nat) (x : Str) (ps : List Str) (sp : Sp) : Prop where
  ex : ∃ f fd, FnOk P w K mg base (CXe P w) k f fd ps sp ∧ mg x = some (.ref f) ∧ PySem.W.keepIn K (.ref f) = true ∧ Binds K fd ps []
theorem pe_fnE {X : Cx} {j k : Nat} {x : Str} {ps : List Str} {sp : Sp} {E : XK} {e : Expr} {es : List Expr} {t : TA} {p pos : Pos} (C : ClE X.prog X.w X.K X.mg X.base j x ps sp) (hx : Passes (CXe X.prog X.w) X E) (hr : Room k X.A) (hg : Gl X x) (ha : PA X (e :: es) t) (hjk : j ≤ k := by decide)
    (hdb : (x == ("__debug__" : Str)) = false := by decide) (he : starEach (e :: es) X.env = (false, eval e X.env) :: starEach es X.env := by rfl) (hpl : (backTo pos (starEach es X.env)).any (·.1) = false := by rfl) :
    PE X (.Call (.Name x p) (e :: es) [] pos) (tCall sp [] E t) := by
  obtain ⟨f, fd, F, hm, hk, hb⟩ := C.ex
  exact pe_call F (hr.mono hjk) hg hm hk hb .nil hx ha hdb he hpl
theorem ClE.of {P : Program} {w : World} {K : PySem.W.Frag} {mg : Str → Option Value} {base : Heap} {x : Str} {st : Stmt} {N ps : List Str} {k : Nat} {sp : Sp} (T : HasDef K mg x st) (S : FnScope N ps (defScope st)) (len : ∀ vs H Q E, sp vs H Q E → vs.length = ps.length)
    (hb : ∀ (kV doc pm : Value) (an : Option Addr) (cdv ct : Value) (us : List Value), us.length = ps.length → bindArgs (PySem.W.fnOf x x (defArgs st) (defBody st) (defScope st) .none kV doc pm an cdv ct) ⟨us, []⟩ = pure (ps.zip us))
    (hbody : ∀ (f : Addr) (cdv : Value) (A : Around) (outer : List Env) (s : Shared) (H : Hp) (vs : List V) (Q : VK) (E : XK), Room k (A.deeper (envOfC x (defScope st) s.heap.objs.size f cdv)) → sp vs H Q E →
      ∃ t, PSs (cxOf (CXe P w) P w K mg base N x (defScope st) f cdv A outer s H E) (defBody st) t ∧ t { nx := fun _ H' => Q .non H', rt := Q } (start N vs) H) : ClE P w K mg base (k + 1) x ps sp := by
  obtain ⟨f, fd, F, m⟩ := T
  obtain ⟨oc, od, kV, doc, pm, an, cdv, ct, osl, rfl, lk, hcd⟩ := F.ex
  exact ⟨f, _, fn_of lk hcd S len fun A outer s H vs Q E hr hsp => hbody f cdv A outer s H vs Q E hr hsp, m, F.kp, F.binds hb⟩
theorem Cl.toE {P : Program} {w : World} {K : PySem.W.Frag} {mg : Str → Option Value} {base : Heap} {k : Nat} {x : Str} {ps : List Str} {sp : Sp} (C : Cl P w K mg base k x ps sp) : ClE P w K mg base k x ps sp := by
  obtain ⟨f, fd, F, hm, hk, hb⟩ := C.ex
  refine ⟨f, fd, ⟨F.len, fun A outer s H args us vs Q E hr e0 b r h => codeAny_mono (F.run A outer s H args us vs Q E hr e0 b r h) fun r s' q => ?_⟩, hm, hk, hb⟩
  cases r with
  | error e => exact False.elim q
  | ok fl =>
    cases fl with
    | ret u => exact q
    | next => exact q
    | brk => exact q
    | cont => exact q
end L2
set_option Elab.async false
set_option linter.all false
set_option maxRecDepth 100000
set_option maxHeartbeats 4000000
namespace L2
open PySem PySem.Spec PyProof.Rows XC
structure Fr1 (X : Cx) (pins : List (Addr × Obj)) (b : Addr) : Prop where
  s0 : X.s₀.heap.get? b = none
  loc : b ≠ X.env.locals
  cel : ∀ x c, X.env.cells.lookup x = some c → c ≠ b
  pin : ∀ p ∈ X.pn ++ pins, p.1 ≠ b
section
variable {X : Cx} {pins : List (Addr × Obj)} {σ : St} {H H' : Hp} {s : Shared} {h' : Heap} {a : Addr} {ts : List Addr}
theorem Inv.fr1 (I : Inv X pins σ H s) (hx : X.ex = []) {b : Addr} (n : s.heap.get? b = none) : Fr1 X pins b := by
  refine ⟨I.up hx n, fun z => ?_, fun x c e z => ?_, fun p hp z => ?_⟩
  · obtain ⟨m, ⟨o, _, _, ho, _⟩, _⟩ := I.loc
    rw [← z, n] at ho
    cases ho
  · obtain ⟨v, o, ho, _⟩ := I.cell x c e
    rw [z, n] at ho
    cases ho
  · have q := (I.pin p hp).1
    rw [z, n] at q
    cases q
theorem Inv.flown {t' : Nat} (I : Inv X pins σ H s) (hx : X.ex = []) (hs : X.stack = X.env :: X.outer) (hf : X.env.frame = some X.env.locals) (G : Gone X.stack a ts s.heap h') (ha : Fr1 X pins a) (ht : ∀ b ∈ ts, Fr1 X pins b) (na : H a = none)
    (hH : H' = H ∨ ∃ o, H' = upd H a o) (hok : HOk X.prog X.w H' h') : Inv X pins σ H' { s with heap := h', toks := t' } := by
  have fre : frsOf X.stack = X.env.locals :: X.fs := by
    rw [hs]
    show (X.env :: X.outer).filterMap (·.frame) = _
    rw [List.filterMap_cons, hf]
    rfl
  have stay : ∀ b, b ≠ a → H' b = H b := fun b z => by
    rcases hH with e | ⟨o, e⟩
    · rw [e]
    · rw [e, upd_ne z]
  have stayT : ∀ b o, H b = some o → H' b = some o := fun b o q => by rw [stay b (ne_of_none q na)]; exact q
  have any : ∀ b o, s.heap.get? b = some o → b ≠ a → b ∉ ts → ∃ sl, h'.get? b = some { o with slots := sl } := fun b o q z w => by
    by_cases hb : b ∈ frsOf X.stack
    · exact G.slot b o q hb
    · exact ⟨o.slots, G.keep b o q z w hb⟩
  have old : ∀ b o, X.s₀.heap.get? b = some o → b ≠ a ∧ b ∉ ts := fun b o q => ⟨(fun z => by rw [z, ha.s0] at q; cases q), (fun z => by rw [(ht b z).s0] at q; cases q)⟩
  have cellK : ∀ x c, X.env.cells.lookup x = some c → ∀ v, s.heap.IsCell c v → h'.IsCell c v := fun x c e v ⟨o, ho, hd⟩ => by
    obtain ⟨sl, q⟩ := any c o ho (ha.cel x c e) fun z => (ht c z).cel x c e rfl
    exact ⟨_, q, hd⟩
  refine ⟨I.ok, I.os, I.bare, ⟨fun b o e n hb hx => ?_, fun b o e n hb hx => ?_, fun b o e n hx => ?_, fun b o e hx => ?_, fun b xs e => stayT b _ (I.base.tups b xs e), fun b o xs e => stayT b _ (I.base.frzs b o xs e), fun b ps e => ?_⟩, ?_, fun x c e => ?_, ?_, fun x c e => ?_, fun p hp => ?_, hok, I.len⟩
  · refine G.keep b o (I.base.keep b o e n hb hx) (old b o e).1 (old b o e).2 fun z => ?_
    rw [fre] at z
    rcases List.mem_cons.mp z with z | z
    · exact absurd (Nat.lt_of_lt_of_le (Heap.lt_size e) I.ok.above) (by rw [z]; exact Nat.lt_irrefl _)
    · exact hb z
  · obtain ⟨sl, e1⟩ := I.base.slot b o e n hb hx
    obtain ⟨sl', e2⟩ := G.slot b _ e1 (by rw [fre]; exact List.mem_cons_of_mem _ hb)
    exact ⟨sl', e2⟩
  · rw [stay b (old b o e).1]
    exact I.base.free b o e n hx
  · obtain ⟨o1, e1⟩ := I.base.there b o e hx
    obtain ⟨sl, e2⟩ := any b o1 e1 (old b o e).1 (old b o e).2
    exact ⟨_, e2⟩
  · obtain ⟨more, e1⟩ := I.base.tbls b ps e
    exact ⟨more, stayT b _ e1⟩
  · obtain ⟨m, ⟨o, es, ep, ho, r⟩, hl⟩ := I.loc
    obtain ⟨sl, q⟩ := any _ o ho (fun z => ha.loc z.symm) (fun z => (ht _ z).loc rfl)
    refine ⟨m, ⟨_, es, ep, q, r⟩, fun i x v e1 e2 e3 => ?_⟩
    obtain ⟨u, r1, l⟩ := hl i x v e1 e2 e3
    refine ⟨u, r1, ?_⟩
    rcases l with l | ⟨k, c, e, z⟩
    · exact .inl l
    · exact .inr ⟨k, c, e, cellK x c e _ z⟩
  · obtain ⟨v, z⟩ := I.cell x c e
    exact ⟨v, cellK x c e v z⟩
  · rw [stay _ (fun z => ha.loc z.symm)]
    exact I.free
  · rw [stay c (ha.cel x c e)]
    exact I.freeC x c e
  · obtain ⟨e, n, ne, nf, d⟩ := I.pin p hp
    refine ⟨G.keep p.1 p.2 e (ha.pin p hp) (fun z => (ht _ z).pin p hp rfl) (fun z => ?_), by rw [stay _ (ha.pin p hp)]; exact n, ne, nf, d⟩
    rw [fre] at z
    rcases List.mem_cons.mp z with z | z
    · exact ne z
    · exact nf z
theorem HOk.take {P : Program} {w : World} {h : Heap} {o : HO} (ok : HOk P w H h) (na : H a = none) (new : ObjOk P w (upd H a o) h a o) : HOk P w (upd H a o) h := fun b u e => by
  by_cases hb : b = a
  · subst hb
    rw [upd_same] at e
    cases e
    exact new
  · rw [upd_ne hb] at e
    exact (ok b u e).stay (fun _ _ _ q => q) (fun c q => by rw [upd_ne (ne_of_none q na)]; exact q) fun c xs q => by rw [upd_ne (ne_of_none q na)]; exact q
end
def ExO (a C : Addr) (dd : Option Addr) : HO := .ext fun h => ∃ o vs, h.get? a = some o ∧ o.cls = .ref C ∧ o.dict = dd ∧ o.data = .fields vs
abbrev Cx.hand (X : Cx) (a : Addr) : Cx := { X with A := X.A.mark (some (.ref a)), calm := false, xe := fun _ _ => False }
section
variable {X : Cx} {pins : List (Addr × Obj)} {σ : St} {H : Hp} {s : Shared} {a : Addr}
theorem Inv.hand (I : Inv X pins σ H s) (a : Addr) : Inv (X.hand a) pins σ H s :=
  ⟨⟨I.ok.mod, I.ok.kind, I.ok.glob, I.ok.blt, I.ok.above, I.ok.inj, I.ok.has, I.ok.cab, fun z => absurd (show false = true from z) Bool.false_ne_true, I.ok.frames, I.ok.stk, I.ok.exf, I.ok.bs, I.ok.bsz, I.ok.noex, I.ok.exfs, I.ok.funs, I.ok.frf⟩, I.os, I.bare, I.base, I.loc, I.cell, I.free, I.freeC, I.pin, I.hok, I.len⟩
theorem Inv.unhand (ok : X.Ok) (I : Inv (X.hand a) pins σ H s) : Inv X pins σ H s := ⟨ok, I.os, I.bare, I.base, I.loc, I.cell, I.free, I.freeC, I.pin, I.hok, I.len⟩
end
def Up (X : Cx) (pins : List (Addr × Obj)) (σ : St) (E : XK) (e : Value) (s : Shared) : Prop :=
  ∃ (a T : Addr) (cls : Value) (dd : Option Addr) (H : Hp), e = .ref a ∧ Inv X pins σ H s ∧ Fr1 X pins a ∧ Fr1 X pins T ∧ H a = none ∧ H T = none ∧ Tr s.heap a cls dd T .none ∧ E cls dd H
def TBody (X : Cx) (body : List Stmt) (t : XK → TS) : Prop :=
  ∀ (pins : List (Addr × Obj)) (s : Shared) (σ : St) (H : Hp) (D : Ends) (E : XK) (xe1 : Value → Shared → Prop), Inv X pins σ H s → (∀ e s2, Up X pins σ E e s2 → xe1 e s2) → t E D σ H → wpAny (model X.prog X.w) X.A (execs body X.env) (SP X pins D) xe1 s
section
variable {X : Cx} {j k : Nat} {f : Str} {ps : List Str} {sp : Sp} {e : Expr} {es : List Expr} {ta : TA} {p pos cpos : Pos}
theorem PA.nox {t : TA} (h : PA X.nox es t) (xe1 : Value → Shared → Prop) : PA (X.wish xe1) es t := fun pos pins s σ H Q I hw =>
  wpAny_mono (h pos pins s σ H Q (I.unwish.wish _) hw) (fun _ _ ⟨v, H', I', r, q⟩ => ⟨v, H', I'.unwish.wish _, r, q⟩) fun _ _ z => False.elim z
theorem call_up (C : ClE X.prog X.w X.K X.mg X.base j f ps sp) (hx : X.ex = []) (hr : Room k X.A) (hg : Gl X f) (ha : PA X.nox (e :: es) ta) (hjk : j ≤ k)
    (hdb : (f == ("__debug__" : Str)) = false) (he : starEach (e :: es) X.env = (false, eval e X.env) :: starEach es X.env) (hpl : (backTo cpos (starEach es X.env)).any (·.1) = false)
    {pins : List (Addr × Obj)} {s : Shared} {σ : St} {H : Hp} {Q : VK} {E : XK} {xe1 : Value → Shared → Prop} (I : Inv X pins σ H s) (hu : ∀ e s2, Up X pins σ E e s2 → xe1 e s2) (h : ta σ H fun vs H1 => sp (vs ++ []) H1 Q E) :
    wpAny (model X.prog X.w) X.A (eval (.Call (.Name f p) (e :: es) [] cpos) X.env) (EP X pins σ Q) xe1 s := by
  obtain ⟨fa, fd, F, hm, hk, hb⟩ := C.ex
  refine wpAny_Call_Name_kw (ld_glob I hg hm ?_ hdb)
  refine PySem.W.callWith_K (h₀ := X.base) I.ok.mod.kin hk (thn (PA.nox ha xe1 cpos pins s σ H _ (I.wish _) h) fun us s1 ⟨vs, H1, I1, r, q⟩ => ⟨I1.kIn, ?_⟩) he hpl
  have I1 := I1.unwish
  have r2 : Vals (vs ++ []) (us ++ []) := r.append .nil
  have hl : (us ++ []).length = ps.length := by rw [← r2.length]; exact F.len _ _ _ _ q
  refine wpAny_call (codeAny_mono (F.run X.A X.stack s1 H1 ⟨us, []⟩ (us ++ []) (vs ++ []) Q E (hr.mono hjk) I1.env0 (hb s1 us I1.kIn hl) r2 q) fun r s' hq => ?_)
  cases r with
  | error v =>
    obtain ⟨a, T, cls, dd, H2, rfl, os, bare, un, hok, new, fr, ht, newT, frT, hE⟩ := hq
    exact hu _ _ ⟨a, T, cls, dd, H2, rfl, Inv.call' (ch := []) I1 os un hok bare (fun b z => by cases z), I1.fr1 hx new, I1.fr1 hx newT, fr, frT, ht, hE⟩
  | ok fl =>
    cases fl with
    | ret u => exact I1.after hq
    | next => exact False.elim hq
    | brk => exact False.elim hq
    | cont => exact False.elim hq
def tbCall (sp : Sp) (ta : TA) (k : V → TS) : XK → TS := fun E D σ H => ta σ H fun vs H1 => sp (vs ++ []) H1 (fun v H2 => k v D σ H2) E
theorem tb_set {i : Nat} {x : Str} {xp : Pos} (hN : X.N.Nodup) (hi : X.N[i]? = some x) (hl : Loc X.env.scope x) (C : ClE X.prog X.w X.K X.mg X.base j f ps sp) (hr : Room k X.A) (hg : Gl X f) (ha : PA X.nox (e :: es) ta) (hjk : j ≤ k := by decide) (hx : X.ex = [] := by rfl)
    (hdb : (f == ("__debug__" : Str)) = false := by decide) (he : starEach (e :: es) X.env = (false, eval e X.env) :: starEach es X.env := by rfl) (hpl : (backTo cpos (starEach es X.env)).any (·.1) = false := by rfl)
    (hs : swapsWith (.Call (.Name f p) (e :: es) [] cpos) (some (.Name x xp)) pos.line X.env = pure false := by rfl) (hf : X.fn x = true ∨ X.env.scope.names.lookup x = some .local := by first | exact .inl rfl | exact .inr rfl | assumption) :
    TBody X [.Assign [.Name x xp] (.Call (.Name f p) (e :: es) [] cpos) pos] (tbCall sp ta fun v => fun D σ H => D.nx (σ.set i (some v)) H) := by
  intro pins s σ H D E xe1 I hu h
  refine wpAny_execs_cons (thn (Q := fun f s1 => SP X pins D f s1) (wpAny_Assign_Name (thn (call_up C hx hr hg ha hjk hdb he hpl I hu h) fun v s1 ⟨y, H1, I1, r1, q1⟩ => ?_) hs) fun f s1 q => ?_)
  · exact store_ok I1 hN hi hl r1 (fun s2 I2 => ⟨_, H1, I2, q1⟩) hf
  · cases f with
    | next => exact wpAny_execs_nil q
    | ret v => exact q
    | brk => exact q
    | cont => exact q
end
structure XK1 (K : PySem.W.Frag) (C : Addr) : Prop where
  cl : (PySem.W.clsIn K C).isSome = true
  ty : PySem.W.typeIn K (.ref C) = some (.type "type")
  base : PySem.W.mroIn K C (.type "BaseException") = some true
  ga : PySem.W.findIn K (.ref C) "__getattribute__" = some (some (.builtin "BaseException.__getattribute__"))
  gt : PySem.W.findIn K (.ref C) "__getattr__" = some none
  ca : PySem.W.findIn K (.ref C) "__class__" = some (some (.builtin "object.__class__"))
  gd : PySem.W.specialIn K (.builtin "object.__class__") "__get__" = some (some (.builtin "getset_descriptor.__get__"))
  tk : PySem.W.takesIn K (.builtin "object.__class__") = some true
  ob : PySem.W.mroIn K C (.type "object") = some true
theorem looks_isType {K : PySem.W.Frag} {M : Model} {h : Heap} (x : K.In h) {C : Addr} (e : (PySem.W.clsIn K C).isSome = true) : PySem.W.Looks M h (isType (.ref C)) true := by
  unfold PySem.W.clsIn at e
  split at e
  · rename_i c' d' cd' sl' ho
    intro A' Q' E' s' k q
    unfold isType loadHead
    exact wpAny_bind (wpAny_loadPart (k _ _ (x _ _ ho)) (wpAny_pure q))
  · cases e
theorem exc_match {M : Model} {A : Around} {E : Value → Shared → Prop} {s : Shared} {K : PySem.W.Frag} {a C B : Addr} {o : Obj} {Q : Bool → Shared → Prop} (X : K.In s.heap) (b : XK1 K B) (sub : PySem.W.mroIn K C (.ref B) = some true) (ha : s.heap.get? a = some o) (hc : o.cls = .ref C)
    (h : Q true s) : wpAny M A (excMatches (.ref a) (.ref B)) Q E s := by
  obtain ⟨hh, g, d, t, os⟩ := s
  have L1 := PySem.W.looks_typeIn (M := M) X b.ty
  have L2 : PySem.W.Looks M hh (isSubtype (.type "type") (.type "tuple")) false := PySem.W.Looks.of_pure tc_notTuple
  have L3 := looks_isType (M := M) X b.cl
  have L4 := PySem.W.looks_mroIn (M := M) X b.base
  have L5 : PySem.W.Looks M hh (typeOf (.ref a)) (.ref C) := hc ▸ (PySem.W.Looks.ld ha).andThen .now
  have L6 := PySem.W.looks_mroIn (M := M) X sub
  have L7 : PySem.W.Looks M hh (isInstance (.ref B) (.type "tuple")) false := L1.andThen L2
  have L8 : PySem.W.Looks M hh (isExcClass (.ref B)) true := L3.andThen (by simpa using L4)
  unfold excMatches
  refine wpAny_bind (L7.at ?_)
  simp only [Bool.false_eq_true, if_false, List.forIn_cons, List.forIn_nil, pure_bind]
  refine wpAny_bind (wpAny_bind (wpAny_bind (L8.at ?_)))
  simp only [Bool.not_true, Bool.false_eq_true, if_false]
  refine wpAny_pure (wpAny_pure (wpAny_bind (L5.at (wpAny_bind (wpAny_bind (wpAny_bind (L6.at ?_)))))))
  simp only [if_true]
  exact wpAny_pure (wpAny_pure (wpAny_pure h))
def tTry (K : PySem.W.Frag) (B : Addr) (tb : XK → TS) (th : TS) : TS := fun D σ H =>
  tb (fun cls dd H2 => ∃ C, cls = .ref C ∧ PySem.W.mroIn K C (.ref B) = some true ∧ ∀ a, H2 a = none → th D σ (upd H2 a (ExO a C dd))) D σ H
section
variable {X : Cx} {body : List Stmt} {tb : XK → TS} {x n : Str} {B : Addr} {i : Nat} {b0 : Stmt} {suite : List Stmt} {th : TS} {np hp pos : Pos}
theorem exo_ok {P : Program} {w : World} {H : Hp} {h : Heap} {a T C : Addr} {dd : Option Addr} {fl : Value} (t : Tr h a (.ref C) dd T fl) : ObjOk P w (upd H a (ExO a C dd)) h a (ExO a C dd) := by
  obtain ⟨oe, vs, oT, ts, h1, h2, h2', h3, _⟩ := t
  exact ⟨⟨oe, vs, h1, h2, h2', h3⟩, ⟨oe, h1⟩, fun g1 g2 ⟨o, vs, q, r⟩ k => ⟨o, vs, k o q, r⟩⟩
theorem ps_tryN (hg : Gl X x) (hm : X.mg x = some (.ref B)) (b : XK1 X.K B) (hb : TBody X body tb) (hh : ∀ a, PSs (X.hand a) (b0 :: suite) th)
    (hx : X.ex = [] := by rfl) (hs : X.stack = X.env :: X.outer := by rfl) (hf : X.env.frame = some X.env.locals := by rfl) (hd : (x == ("__debug__" : Str)) = false := by decide) :
    PS X (.Try body [.ExceptHandler (some (.Name x np)) none (b0 :: suite) hp] [] [] pos) (tTry X.K B tb th) := by
  intro pins s σ H D I h
  refine wpAny_Try_except (thn (hb pins s σ H D _ _ I (fun e s1 u => ?_) h) fun f s1 q => ?_)
  · obtain ⟨a, T, cls, dd, H2, rfl, I1, fa, fT, na, nT, ht, C, rfl, sub, hth⟩ := u
    have st : s1.heap.FunFrames X.base (X.env :: X.outer) := hs ▸ I1.stack
    refine note_next (by rw [I1.ok.frames, hs]) st hf ht fun h3 T3 G3 n3 t3 => fly_off t3 fun h4 k4 t4 => ?_
    have G4 := G3.off k4 (.inl n3) (new_notIn n3 st)
    have ok4 : HOk X.prog X.w H2 h4 := HOk.gone I1.hok G4 na (fun b z => by rw [List.mem_singleton.mp z]; exact nT) (hs ▸ I1.stkFree)
    have I4 : Inv X pins σ H2 { s1 with heap := h4 } := I1.flown (t' := s1.toks) hx hs hf (hs ▸ G4) fa (fun b z => by rw [List.mem_singleton.mp z]; exact fT) na (.inl rfl) ok4
    obtain ⟨oe, vs, oT, tt, e1, e2, _⟩ := id t4
    refine wpAny_handleBy_cons (codeAny_handlers_test (ld_glob (I4.hand a) hg hm (exc_match I4.kIn b sub e1 e2 (codeAny_handlers_suite (fly_off t4 fun h5 k5 t5 => ?_))) hd)) (by intro q; cases q)
    have G5 := G4.off k5 (.inl n3) (new_notIn n3 st)
    have ok5 : HOk X.prog X.w H2 h5 := HOk.gone I1.hok G5 na (fun b z => by rw [List.mem_singleton.mp z]; exact nT) (hs ▸ I1.stkFree)
    have I5 : Inv X pins σ (upd H2 a (ExO a C dd)) { s1 with heap := h5 } := I1.flown (t' := s1.toks) hx hs hf (hs ▸ G5) fa (fun b z => by rw [List.mem_singleton.mp z]; exact fT) na (.inr ⟨_, rfl⟩) (ok5.take na (exo_ok t5))
    refine wpAny_mono (hh a pins _ _ _ _ (I5.hand a) (hth a na)) (fun f s7 q => ?_) fun _ _ z => z.elim
    cases f with
    | next =>
      obtain ⟨σ', H', I', q⟩ := q
      exact ⟨σ', H', I'.unhand I.ok, q⟩
    | brk =>
      obtain ⟨σ', H', I', q⟩ := q
      exact ⟨σ', H', I'.unhand I.ok, q⟩
    | cont =>
      obtain ⟨σ', H', I', q⟩ := q
      exact ⟨σ', H', I'.unhand I.ok, q⟩
    | ret u =>
      obtain ⟨v, σ', H', I', r, q⟩ := q
      exact ⟨v, σ', H', I'.unhand I.ok, r, q⟩
  · cases f with
    | next => exact wpAny_execs_nil q
    | ret v => exact q
    | brk => exact q
    | cont => exact q
end
abbrev bmV : List Value := [.type "ValueError", .type "Exception", .type "BaseException", .type "object"]
theorem own_obj {K : PySem.W.Frag} {h : Heap} {C : Addr} {bmB : List Value} {newId : String} (X : K.In h) (q : PySem.W.excIn K C bmB newId = true) : ∃ bm N nm qn bs hdct sn sub ab col dd k0 k1 k2 k3 k5 mN,
    h.get? C = some (excClassObj nm qn C N bs bm hdct sn sub ab col dd k0 k1 k2 k3 k5 newId) ∧ h.Ns N mN ∧ mN "__init__" = none ∧ OwnTail h bmB bm := by
  unfold PySem.W.excIn at q
  split at q
  · rename_i dd cd sl ho
    split at q
    · rename_i C' bm k0 k1 k2 k3 n k5 e1 e2
      simp only [Bool.and_eq_true, beq_iff_eq, Bool.not_eq_true'] at q
      obtain ⟨⟨⟨⟨⟨c1, c2⟩, c3⟩, c4⟩, c5⟩, c6⟩ := q
      cases c1
      cases c2
      obtain ⟨nm, bs, mro, ns, qn, hd, sn, sub, ab, col, del⟩ := cd
      dsimp only at e1 c3 c5 c6
      cases e1
      cases c3
      obtain ⟨l⟩ := sl
      cases (show l = _ from e2)
      exact ⟨bm, ns, nm, qn, bs, hd, sn, sub, ab, col, dd, k0, k1, k2, k3, k5, _, X _ _ ho, .of_isNs (PySem.W.isNs_of_in X c5), PySem.W.nsMap_none_of_in X c5 c6, PySem.W.tail_of_in X c4⟩
    · cases q
  · cases q
section
variable {P : Program} {w : World} {K : PySem.W.Frag} {mg : Str → Option Value} {base : Heap} {N : List Str} {qual : Str} {scope : Scope} {f : Addr} {cd : Value} {A : Around} {outer : List Env} {s : Shared} {H : Hp} {E : XK}
end
end L2
set_option Elab.async false
set_option linter.all false
set_option maxRecDepth 100000
set_option maxHeartbeats 4000000
namespace L2
open PySem PySem.Spec PyProof.Rows XC
section
variable {prog : Program} {w : World} {A : Around} {E : Value → Shared → Prop} {s : Shared} {K : PySem.W.Frag} {x C : Addr} {ox : Obj} {od : Option Obj}
end
end L2
set_option Elab.async false
set_option linter.all false
set_option maxRecDepth 100000
set_option maxHeartbeats 1000000
namespace L2
open PySem PySem.Spec PyProof.Rows XC
inductive OverV : List Value → Prop
  | base : OverV bmV
  | own {c : Addr} {l : List Value} : OverV l → OverV (.ref c :: l)
theorem OverV.pass (self : Value) {l : List Value} (h : OverV l) : refuseLoop self "__setattr__" l = pure () := by
  induction h with
  | base => exact F.store_ValueError.passes self
  | own _ ih => rw [refuseLoop_ref]; exact ih
structure XF (K : PySem.W.Frag) (C : Addr) (f : Str) : Prop where
  cd : ∃ cd, PySem.W.clsIn K C = some cd ∧ OverV cd.mro ∧ cd.hasDict = true
  sa : PySem.W.findIn K (.ref C) "__setattr__" = some (some (.builtin "object.__setattr__"))
  no : PySem.W.findIn K (.ref C) f = some none
section
variable {prog : Program} {w : World} {A : Around} {E : Value → Shared → Prop} {s : Shared} {K : PySem.W.Frag} {x C : Addr} {o : Obj} {vs : Array Value} {f : Str} {v : Value}
theorem exc_set {Q : Unit → Shared → Prop} (k : XK1 K C) (xf : XF K C f) (X : K.In s.heap) (hx : s.heap.get? x = some o) (hc : o.cls = .ref C) (hd : o.dict = none) (hv : o.data = .fields vs)
    (h : ∀ h' dx tk, dx = s.heap.objs.size → (∀ b u, b ≠ x → s.heap.get? b = some u → h'.get? b = some u) → h'.get? x = some { o with dict := some dx } → dx ≠ x → h'.Ns1 dx (fun y => if y = f then some v else none) → Q () { s with heap := h', toks := tk }) :
    wpAny (model prog w) A (setAttr (.ref x) f v) Q E s := by
  obtain ⟨hh, g, d, t, os⟩ := s
  obtain ⟨cd, c1, c2, c3⟩ := xf.cd
  have SF := F.store_ValueError
  have L0 : PySem.W.Looks (model prog w) hh (typeOf (.ref x)) (.ref C) := hc ▸ (PySem.W.Looks.ld hx).andThen .now
  have L1 := PySem.W.looks_findIn (M := model prog w) X xf.sa
  have L2 := PySem.W.looks_findIn (M := model prog w) X xf.no
  have L3 : PySem.W.Looks (model prog w) hh (mroOf (.ref C)) cd.mro := (PySem.W.looks_clsIn X c1).andThen .now
  have L4 : PySem.W.Looks (model prog w) hh (isInstance (.ref x) (.type "object")) true := L0.andThen (PySem.W.looks_mroIn X k.ob)
  unfold setAttr callSpecial? specialOf
  refine wpAny_bind (wpAny_mkText (wpAny_bind (wpAny_bind (wpAny_bind (L0.at (L1.at ?_))))))
  refine wpAny_holding (wpAny_bind (wpAny_of_eq (SF.slot.bind (.ref x)) ?_))
  refine wpAny_bind (wpAny_call (codeAny_call_builtin SF.slot.plain SF.entry (@PySem.W.check_slot (model prog w) _ _ ⟨hh, g, d, t + 1, os⟩ "object.__setattr__" "object" "__setattr__" (.ref x) [.str f t, v] [] _ SF.kind SF.split L4 (SF.args (.ref x) (.str f t) v) ?_)))
  show wpAny _ _ (Builtin.«object.__setattr__» ⟨[.ref x, .str f t, v], []⟩) _ _ _
  rw [PySem.W.osa_eq, refuse_eq]
  refine wpAny_bind (wpAny_bind (L0.at (wpAny_bind (L3.at ?_))))
  rw [c2.pass]
  refine wpAny_pure (wpAny_bind (L0.at (wpAny_bind (L2.at (wpAny_bind (wpAny_pure ?_))))))
  show wpAny _ _ (Builtin.ObjectAttr.storeInOwnDict (.ref x) (.ref C) (.str f t) f v false) _ _ _
  obtain ⟨oc, od, oda, osl⟩ := o
  dsimp only at hc hd hv
  subst hc hd hv
  refine wpAny_bind (wpAny_pure (wpAny_bind (wpAny_bind (wpAny_loadPart hx (wpAny_bind ((PySem.W.looks_clsIn X c1).at ?_))))))
  rw [c3]
  have hx1 : (hh.push { cls := .type "dict", data := .dict #[] }).get? x = some ⟨.ref C, none, .fields vs, osl⟩ := Heap.get?_push_of_some _ hx
  have hxs : x ≠ hh.objs.size := Nat.ne_of_lt (Heap.lt_size hx)
  refine wpAny_bind (wpAny_alloc' (wpAny_bind (wpAny_update' hx1 (wpAny_pure ?_))))
  have gx : ((hh.push { cls := .type "dict", data := .dict #[] }).update x fun o => { o with dict := some hh.objs.size }).get? x = some ⟨.ref C, some hh.objs.size, .fields vs, osl⟩ := Heap.get?_update_self _ hx1 rfl
  have gd : ((hh.push { cls := .type "dict", data := .dict #[] }).update x fun o => { o with dict := some hh.objs.size }).get? hh.objs.size = some { cls := .type "dict", data := .dict #[] } := by
    rw [Heap.get?_update_other _ _ hxs]
    exact Heap.get?_push_size _ rfl
  have ko : ∀ b u, b ≠ x → hh.get? b = some u → ((hh.push { cls := .type "dict", data := .dict #[] }).update x fun o => { o with dict := some hh.objs.size }).get? b = some u := fun b u z q => by
    rw [Heap.get?_update_other _ _ (Ne.symm z)]
    exact Heap.get?_push_of_some _ q
  show wpAny _ _ (Builtin.ObjectAttr.storeInDict hh.objs.size (.str f t) f v) _ _ ⟨(hh.push { cls := .type "dict", data := .dict #[] }).update x fun o => { o with dict := some hh.objs.size }, g, d, t + 1, os⟩
  generalize ((hh.push { cls := .type "dict", data := .dict #[] }).update x fun o => { o with dict := some hh.objs.size }) = h2 at gx gd ko
  have nd : h2.Ns hh.objs.size (fun _ => none) := ⟨_, #[], _, gd, rfl, fun e he => absurd he (by simp), fun _ => rfl⟩
  unfold Builtin.ObjectAttr.storeInDict Builtin.ObjectAttr.newKeyGuard
  refine wpAny_bind (wpAny_pure (wpAny_bind (wpAny_nsSet1 (Heap.Ns1.of_empty nd) fun h3 n3 S3 => ?_)))
  obtain ⟨oD, esD, epD, a1, a2, a3⟩ := n3.count (Within.cons f v Within.nil)
  refine wpAny_bind (wpAny_lookBehind a1 (by rw [a2]; exact pastItsLine_dict (Nat.le_trans a3 (by rw [List.length_cons, List.length_nil, sizeLine_eq]; omega))) ?_)
  refine wpAny_pure (wpAny_pure (wpAny_pure ?_))
  refine h h3 hh.objs.size _ rfl (fun b u z q => ?_) ((S3.2 x hxs).trans gx) (Ne.symm hxs) n3
  exact (S3.2 b (Nat.ne_of_lt (Heap.lt_size q))).trans (ko b u z q)
end
section
variable {prog : Program} {w : World} {A : Around} {E : Value → Shared → Prop} {h : Heap} {g : Array GenState} {d : Drawn} {t : Nat} {os : OsState}
variable {nm q : Str} {C N e : Addr} {bs bm : List Value} {hdct : Bool} {sn : List Str} {sub : List Value} {ab : Bool} {col : Option Bool} {dd : Option Addr} {k0 k1 k2 k3 k5 : Option Value} {oe : Obj} {vs : Array Value} {v : Value}
theorem exc_init {Q : Value → Shared → Prop} (hC : h.get? C = some (excClassObj nm q C N bs bm hdct sn sub ab col dd k0 k1 k2 k3 k5 "ValueError.__new__")) (T : OwnTail h bmV bm) (he : h.get? e = some oe) (hc : oe.cls = .ref C) (hd : oe.data = .fields vs) {a0 : Addr} (h0 : vs[0]? = some (.ref a0))
    (k : ∀ h' t', h.get? t' = none → (∀ b o, b ≠ e → h.get? b = some o → h'.get? b = some o) → h'.get? e = some (oe.mapFields (·.setIfInBounds 0 (.ref t'))) → Q .none ⟨h', g, d, t, os⟩) :
    wpAny (model prog w) A (call (.builtin "ValueError.__init__") [.ref e, v]) Q E ⟨h, g, d, t, os⟩ := by
  refine wpAny_call (codeAny_call_builtin F.excBase_ValueError.init.plain F.excBase_ValueError.initEntry (wpAny_check_init_subT F.excBase_ValueError T hC he hc ?_))
  iterate 12 (first | wp_step | skip)
  have he2 := Heap.get?_push_of_some { cls := .type "tuple", data := .seq #[v] } he
  unfold Builtin.BaseException.bexcPut
  refine wpAny_bind (wpAny_field he2 hd h0 (wpAny_bind (wpAny_setField he2 hd (Array.getElem?_eq_some_iff.mp h0).1 ?_)))
  wp_walk
  refine k _ h.objs.size (Heap.get?_none_of_le (Nat.le_refl _)) (fun b o z qb => ?_) (Heap.get?_update_self _ he2 (Obj.isFreed_of_fields (Obj.data_mapFields hd _)))
  rw [Heap.get?_update_other _ _ (Ne.symm z)]
  exact Heap.get?_push_of_some _ qb
end
section
variable {prog : Program} {w : World} {A : Around} {E : Value → Shared → Prop} {h : Heap} {g : Array GenState} {d : Drawn} {t : Nat} {os : OsState}
variable {nm q : Str} {C N fI : Addr} {bs bm : List Value} {hdct : Bool} {sn : List Str} {sub : List Value} {ab : Bool} {col : Option Bool} {dd : Option Addr} {k0 k1 k2 k3 k5 : Option Value} {oI : Obj} {rest : List Value}
theorem exc_tcall {Q : Fin → Shared → Prop} (hC : h.get? C = some (excClassObj nm q C N bs bm hdct sn sub ab col dd k0 k1 k2 k3 k5 "ValueError.__new__")) (T : OwnTail h bmV bm) (hl : PySem.W.Looks (model prog w) h (typeLookup (.ref C) "__init__") (some (.ref fI)))
    (hf : h.get? fI = some oI) (hc : oI.cls = .type "function") (hz : rest.length ≤ sizeLine)
    (k : ∀ h' e, Heap.MadeExcOf h h' e (.ref C) rest → wpAny (model prog w) A (call (.ref fI) (.ref e :: rest)) (fun r s' => r = .none ∧ Q (.done (.ret (.ref e))) s') E ⟨h', g, d, t, os⟩) :
    wpAny (model prog w) A (Builtin.«type.__call__» ⟨.ref C :: rest, []⟩) Q E ⟨h, g, d, t, os⟩ := by
  iterate 60 (first | with_reducible refine wpAny_loadPart_at hC ?_ | with_reducible refine wpAny_madeBy_exc hC ?_ | wp_step | skip)
  refine codeAny_call_builtin_code (Code.quiet_builtin _ F.excBase_ValueError.quiet) (wpAny_check_new_subT F.excBase_ValueError T hC (codeAny_exc_new_subT F.excBase_ValueError T hC ?_ hz))
  have kp : ∀ b o, h.get? b = some o → ((h.push { cls := .type "tuple", data := .seq rest.toArray }).push { cls := .ref C, data := .fields #[.ref h.objs.size, .none, .none, .none, .bool false, .none] }).get? b = some o := fun b o e => Heap.get?_push_of_some _ (Heap.get?_push_of_some _ e)
  have gt : ((h.push { cls := .type "tuple", data := .seq rest.toArray }).push { cls := .ref C, data := .fields #[.ref h.objs.size, .none, .none, .none, .bool false, .none] }).get? h.objs.size = some { cls := .type "tuple", data := .seq rest.toArray } := Heap.get?_push_of_some _ (Heap.get?_push_size _ rfl)
  have ge : ((h.push { cls := .type "tuple", data := .seq rest.toArray }).push { cls := .ref C, data := .fields #[.ref h.objs.size, .none, .none, .none, .bool false, .none] }).get? (h.objs.size + 1) = some { cls := .ref C, data := .fields #[.ref h.objs.size, .none, .none, .none, .bool false, .none] } := by
    rw [show h.objs.size + 1 = (h.push { cls := .type "tuple", data := .seq rest.toArray }).objs.size from (Heap.size_push _ _).symm]
    exact Heap.get?_push_size _ rfl
  have M := Heap.MadeExcOf.mk (h := h) (e := h.objs.size + 1) (cls := .ref C) (args := rest) kp (Heap.get?_none_of_le (Nat.le_succ _)) ⟨h.objs.size, ge, Heap.get?_none_of_le (Nat.le_refl _), gt⟩
  generalize (h.push { cls := .type "tuple", data := .seq rest.toArray }).push { cls := .ref C, data := .fields #[.ref h.objs.size, .none, .none, .none, .bool false, .none] } = h1 at kp gt ge M ⊢
  generalize h.objs.size + 1 = e at ge M ⊢
  have L0 : PySem.W.Looks (model prog w) h1 (typeOf (.ref e)) (.ref C) := (PySem.W.Looks.ld ge).andThen .now
  have L1 := hl.keeps kp
  show wpAny _ _ _ _ _ _
  refine wpAny_bind ?_
  unfold isInstance
  refine wpAny_bind (L0.at (wpAny_isSubtype_exc (kp _ _ hC) ?_))
  rw [show (Value.ref C :: bm).contains (Value.ref C) = true by simp]
  simp only [Bool.not_true, Bool.false_eq_true, if_false]
  unfold callSpecial? specialOf
  refine wpAny_bind (wpAny_holding (wpAny_bind (wpAny_bind (L0.at (L1.at (wpAny_holding (wpAny_bind ?_)))))))
  unfold bindSpecial
  refine wpAny_bind (wpAny_typeOf (show (⟨h1, g, d, t, os⟩ : Shared).TypeIs (.ref fI) "function" from ⟨_, kp _ _ hf, hc⟩) ?_)
  rw [if_pos (by decide)]
  refine wpAny_pure (wpAny_bind (wpAny_mono (k h1 e M) (fun r s' z => ?_) fun _ _ z => z))
  obtain ⟨z1, z2⟩ := z
  subst z1
  refine wpAny_pure ?_
  dsimp only
  rw [if_neg (by decide)]
  exact wpAny_pure z2
theorem exc_make {Q : Value → Shared → Prop} (hC : h.get? C = some (excClassObj nm q C N bs bm hdct sn sub ab col dd k0 k1 k2 k3 k5 "ValueError.__new__")) (T : OwnTail h bmV bm) (hl : PySem.W.Looks (model prog w) h (typeLookup (.ref C) "__init__") (some (.ref fI)))
    (hf : h.get? fI = some oI) (hc : oI.cls = .type "function") (hz : rest.length ≤ sizeLine)
    (k : ∀ h' e, Heap.MadeExcOf h h' e (.ref C) rest → wpAny (model prog w) (A.under (.builtin "type.__call__" ⟨.ref C :: rest, []⟩)) (call (.ref fI) (.ref e :: rest)) (fun r s' => r = .none ∧ Q (.ref e) s') E ⟨h', g, d, t, os⟩) :
    wpAny (model prog w) A (call (.ref C) rest) Q E ⟨h, g, d, t, os⟩ := by
  have f1 := tc_lookup
  have f2 := tc_bind (.ref C)
  have hT : (⟨h, g, d, t, os⟩ : Shared).TypeIs (.ref C) "type" := ⟨_, hC, rfl⟩
  refine wpAny_call (codeAny_of_tree ?_)
  show wpAny _ _ (callAny (.ref C) _) _ _ _
  repeat (any_goals (first | wp_step | assumption | with_reducible refine wpAny_loadPart_at hC ?_))
  refine ⟨rfl, codeAny_call_builtin_at (Code.quiet_builtin _ (by decide +kernel)) entry_typeCall (wpAny_check_type_call_sub hC (exc_tcall hC T hl hf hc hz fun h' e m => k h' e m))⟩
end
end L2
set_option Elab.async false
set_option linter.all false
set_option maxRecDepth 100000
set_option maxHeartbeats 1000000
namespace L2
open PySem PySem.Spec PyProof.Rows XC
def ExN (a C : Addr) (dd : Option Addr) : HO := .ext fun h => ∃ o vs a0, h.get? a = some o ∧ o.cls = .ref C ∧ o.dict = dd ∧ o.data = .fields vs ∧ vs[0]? = some (.ref a0) ∧ vs[1]? = some .none
structure XI (K : PySem.W.Frag) (C fI : Addr) : Prop where
  obj : ∃ B N nm q bs hdct sn sub ab col dd k0 k1 k2 k3 k5, K.lookup C = some (excClassObj nm q C N bs (.ref B :: bmV) hdct sn sub ab col dd k0 k1 k2 k3 k5 "ValueError.__new__") ∧ PySem.W.excIn K B bmV "ValueError.__new__" = true
  ini : PySem.W.findIn K (.ref C) "__init__" = some (some (.ref fI))
  fn : PySem.W.isFn K (.ref fI) = true
theorem XI.here {K : PySem.W.Frag} {h : Heap} {C fI : Addr} (x : XI K C fI) (X : K.In h) : ∃ N nm q bs bm hdct sn sub ab col dd k0 k1 k2 k3 k5, h.get? C = some (excClassObj nm q C N bs bm hdct sn sub ab col dd k0 k1 k2 k3 k5 "ValueError.__new__") ∧ OwnTail h bmV bm := by
  obtain ⟨B, N, nm, q, bs, hdct, sn, sub, ab, col, dd, k0, k1, k2, k3, k5, e, b⟩ := x.obj
  obtain ⟨_, _, _, _, _, _, _, _, _, _, _, _, _, _, _, _, mN, hB, hN, hni, _⟩ := own_obj X b
  exact ⟨N, nm, q, bs, _, hdct, sn, sub, ab, col, dd, k0, k1, k2, k3, k5, X _ _ e, .own hB hN hni .base⟩
theorem upd_self {H : Hp} {a : Addr} {o : HO} (h : H a = some o) : upd H a o = H := by
  funext b
  unfold upd
  by_cases e : b = a
  · rw [if_pos e, e, h]
  · rw [if_neg e]
structure XB (K : PySem.W.Frag) (B : Addr) : Prop where
  ga : PySem.W.specialIn K (.ref B) "__getattribute__" = some (some (.builtin "type.__getattribute__"))
  rd : PySem.W.readsIn K B (.type "type") = true
  fc : PySem.W.findCls K (.ref B) (.type "type") "__init__" = some (.val (.builtin "ValueError.__init__"))
section
variable {X : Cx} {b : Str} {B : Addr} {bp apos pos spos : Pos} {e1 e2 : Expr} {ta : TA}
def tInitB (K : PySem.W.Frag) (ta : TA) : TS := fun D σ H => ta σ H fun vs H1 => ∃ x C fI v, vs = [.ref x, v] ∧ H1 x = some (ExN x C none) ∧ XI K C fI ∧ D.nx σ H1
theorem ps_initB {pl : Sem Bool} (hg : Gl X b) (hm : X.mg b = some (.ref B)) (xb : XB X.K B) (ha : PA X [e1, e2] ta) (hd : (b == ("__debug__" : Str)) = false := by decide)
    (hs : swapsWith (.Call (.Attribute (.Name b bp) "__init__" apos) [e1, e2] [] pos) none spos.line X.env = pure false := by rfl)
    (he : starEach [e1, e2] X.env = (false, eval e1 X.env) :: starEach [e2] X.env := by rfl) (hpl : (backTo pos (starEach [e2] X.env)).any (·.1) = false := by rfl)
    (ht : eval (.Call (.Attribute (.Name b bp) "__init__" apos) [e1, e2] [] pos) X.env = (do
      let ov ← eval (.Name b bp) X.env
      standAt apos.atName
      let (f, first) ← holding [ov] (getMethod ov "__init__" pl)
      callWith pos f first (backTo pos (starEach [e1, e2] X.env)) (backToKw pos (keywordEach [] X.env))) := by rfl) :
    PS X (.Expr (.Call (.Attribute (.Name b bp) "__init__" apos) [e1, e2] [] pos) spos) (tInitB X.K ta) := by
  intro pins s σ H D I h
  refine wpAny_Expr_any (Q := SP X pins D) ?_ I.quiet hs
  refine PySem.W.methodCall_KW (pl := pl) (ld_glob I hg hm ?_ hd) ht
  refine PySem.W.method_cls I.kIn xb.ga (PySem.W.cls_value I.kIn xb.rd xb.fc rfl ?_)
  refine PyProof.Rows.callWith_builtin1 (thn (ha pos pins _ σ H _ (I.tok _) h) fun us s1 ⟨vs, H1, I1, r, x, C, fI, v, ev, hx, xi, q⟩ => ?_) he hpl
  subst ev
  obtain ⟨u1, u2, rfl, r1, r2⟩ := vals2 r
  cases (show u1 = Value.ref x from r1)
  obtain ⟨⟨o, fs, a0, o1, o2, o3, o4, o5, o6⟩, _⟩ := I1.hok x _ hx
  obtain ⟨N, nm, q', bs, bm, hdct, sn, sub, ab, col, dd, k0, k1, k2, k3, k5, hC, T⟩ := xi.here I1.kIn
  obtain ⟨hh, g, d, t, os⟩ := s1
  refine exc_init hC T o1 o2 o4 o5 fun h' t' _ kp hx' => ?_
  have d2 := Obj.data_mapFields o4 (·.setIfInBounds 0 (Value.ref t'))
  have J : Inv X pins σ (upd H1 x (ExN x C none)) { (⟨hh, g, d, t, os⟩ : Shared) with heap := h', toks := t } := I1.write (e := x) (by rw [hx]; trivial) (.inl rfl) kp ⟨_, hx'⟩ ⟨⟨_, _, t', hx', (Obj.cls_mapFields _ _).trans o2, (dict_map o4).trans o3, d2, ?_, ?_⟩, ⟨_, hx'⟩, fun g1 g2 ⟨o, vs, a0, q, r⟩ k => ⟨o, vs, a0, k o q, r⟩⟩
  · rw [upd_self hx] at J
    exact ⟨σ, H1, J, q⟩
  · rw [Array.getElem?_setIfInBounds_self, if_pos (Array.getElem?_eq_some_iff.mp o5).1]
  · rw [Array.getElem?_setIfInBounds_ne (by decide)]
    exact o6
end
section
variable {X : Cx} {o value : Expr} {f : Str} {ta tv : TE} {pos pos' : Pos}
def sFldX (K : PySem.W.Frag) (ta tv : TE) (f : Str) : TS := fun D σ H => tv σ H fun y H1 => ta σ H1 fun x H2 => ∃ a C, x = .ref a ∧ H2 a = some (ExN a C none) ∧ XK1 K C ∧ XF K C f ∧ ∀ dx, H2 dx = none → D.nx σ (upd (upd H2 dx (.xd [(f, y)])) a (ExN a C (some dx)))
theorem ps_fldX (ha : PE X o ta) (hv : PE X value tv) (hs : swapsWith value (some (.Attribute o f pos')) pos.line X.env = pure false) : PS X (.Assign [.Attribute o f pos'] value pos) (sFldX X.K ta tv f) := by
  intro pins s σ H D I h
  refine plainObj_wpAny_Assign_Attribute (thn (hv pins s σ H _ I h) fun u s1 ⟨y, H1, I1, ry, q⟩ => thn (ha pins s1 σ H1 _ I1 q) fun ov s2 ⟨x, H2, I2, rx, a, C, ex, hx, k, xf, q2⟩ => ?_) hs
  subst ex
  obtain rfl : ov = Value.ref a := rx
  obtain ⟨⟨ob, fs, a0, o1, o2, o3, o4, o5, o6⟩, _⟩ := I2.hok a _ hx
  refine exc_set k xf I2.kIn o1 o2 o3 o4 fun h' dx tk edx kp hx' ne ns => ?_
  have fr : H2 dx = none := I2.hok.fresh (by rw [edx]; exact Nat.le_refl _)
  have lt : ∀ b u, s2.heap.get? b = some u → b ≠ dx := fun b u q z => by rw [z, edx] at q; exact absurd (Heap.lt_size q) (Nat.lt_irrefl _)
  have hne : ∀ b u, H2 b = some u → b ≠ dx := fun b u q => ne_of_none q fr
  have other : ∀ b, b ≠ a → b ≠ dx → upd (upd H2 dx (.xd [(f, y)])) a (ExN a C (some dx)) b = H2 b := fun b z1 z2 => by rw [upd_ne z1, upd_ne z2]
  have old : ∀ b v, H2 b = some v → v ≠ ExN a C none → b ≠ a := fun b v q z w => by rw [w, hx] at q; exact z (Option.some.inj q).symm
  refine ⟨σ, _, I2.un (t' := tk) ⟨fun b u q n _ _ => kp b u (fun z => by rw [z, hx] at n; cases n) q, fun b u q n _ _ => ⟨u.slots, kp b u (fun z => by rw [z, hx] at n; cases n) q⟩, fun b u q n _ => ?_, fun b u q _ => ?_, fun b xs q => ?_, fun b u xs q => ?_, fun b ps q => ⟨#[], ?_⟩⟩ fun b u q => ?_, q2 dx fr⟩
  · rw [other b (fun z => by rw [z, hx] at n; cases n) (lt b u q)]
    exact n
  · by_cases z : b = a
    · exact ⟨_, z ▸ hx'⟩
    · exact ⟨u, kp b u z q⟩
  · rw [other b (old b _ q (by intro z; cases z)) (hne b _ q)]
    exact q
  · rw [other b (old b _ q (by intro z; cases z)) (hne b _ q)]
    exact q
  · rw [other b (old b _ q (by intro z; cases z)) (hne b _ q), q]
    simp
  · by_cases z1 : b = a
    · subst z1
      rw [upd_same] at q
      cases q
      exact ⟨⟨_, fs, a0, hx', o2, rfl, o4, o5, o6⟩, ⟨_, hx'⟩, fun g1 g2 ⟨o, vs, a0, q, r⟩ k => ⟨o, vs, a0, k o q, r⟩⟩
    · by_cases z2 : b = dx
      · subst z2
        rw [upd_ne z1, upd_same] at q
        cases q
        refine ⟨_, ns, fun y' => ?_⟩
        by_cases ey : y' = f
        · subst ey
          rw [if_pos rfl, List.lookup_cons]
          simp [RelO]
          exact ry
        · rw [if_neg ey, List.lookup_cons]
          rw [show (y' == f) = false from by simpa using ey]
          simp [RelO]
      · rw [other b z1 z2] at q
        refine (I2.hok b u q).stay (fun c v hc r => kp c v ?_ r) (fun c r => ?_) fun c xs r => ?_
        · rcases hc with hc | hc
          · rw [hc]; exact z1
          · exact old c _ hc (by intro z; cases z)
        · rw [other c (old c _ r (by intro z; cases z)) (hne c _ r)]
          exact r
        · rw [other c (old c _ r (by intro z; cases z)) (hne c _ r)]
          exact r
end
end L2
set_option Elab.async false
set_option linter.all false
set_option maxRecDepth 100000
set_option maxHeartbeats 1000000
namespace L2
open PySem PySem.Spec PyProof.Rows XC
def dropH (H : Hp) (a : Addr) : Hp := fun b => if b = a then none else H b
theorem drop_ne {H : Hp} {a b : Addr} (h : b ≠ a) : dropH H a b = H b := by unfold dropH; rw [if_neg h]
theorem drop_none {H : Hp} {a b : Addr} (h : H b = none) : dropH H a b = none := by unfold dropH; split <;> first | rfl | exact h
theorem drop_some {H : Hp} {a b : Addr} {o : HO} (h : dropH H a b = some o) : b ≠ a ∧ H b = some o := by
  unfold dropH at h
  split at h
  · cases h
  · rename_i z
    exact ⟨z, h⟩
theorem Inv.drop {X : Cx} {pins : List (Addr × Obj)} {σ : St} {H : Hp} {s : Shared} {a : Addr} {φ : Heap → Prop} (I : Inv X pins σ H s) (h : H a = some (.ext φ)) : Inv X pins σ (dropH H a) s := by
  have keep : ∀ b o, H b = some o → o ≠ .ext φ → dropH H a b = some o := fun b o q z => by
    rw [drop_ne fun w => by rw [w, h] at q; exact z (Option.some.inj q).symm]
    exact q
  refine ⟨I.ok, I.os, I.bare, ⟨fun b o q n => I.base.keep b o q n, fun b o q n => I.base.slot b o q n, fun b o q n hx => drop_none (I.base.free b o q n hx), I.base.there, fun b xs q => keep b _ (I.base.tups b xs q) (by intro z; cases z), fun b o xs q => keep b _ (I.base.frzs b o xs q) (by intro z; cases z), fun b ps q => ?_⟩, I.loc, I.cell, drop_none I.free, fun x c e => drop_none (I.freeC x c e), fun p hp => ?_, fun b o q => ?_, I.len⟩
  · obtain ⟨more, e⟩ := I.base.tbls b ps q
    exact ⟨more, keep b _ e (by intro z; cases z)⟩
  · obtain ⟨e, n, r⟩ := I.pin p hp
    exact ⟨e, drop_none n, r⟩
  · obtain ⟨z, q⟩ := drop_some q
    exact (I.hok b o q).stay (fun _ _ _ r => r) (fun c r => keep c _ r (by intro z; cases z)) fun c xs r => keep c _ r (by intro z; cases z)
theorem exc_raise {M : Model} {A : Around} {E : Value → Shared → Prop} {s : Shared} {K : PySem.W.Frag} {C : Addr} {env : Env} {x : Sem Value} {Q : Flow → Shared → Prop} (hh : A.handled = none) (k : XK1 K C)
    (h : wpAny M A x (fun v s1 => ∃ e oe vs, v = .ref e ∧ K.In s1.heap ∧ s1.heap.get? e = some oe ∧ oe.cls = .ref C ∧ oe.data = .fields vs ∧ vs[1]? = some .none ∧ E (.ref e) s1) E s) : wpAny M A (raiseStmt env (some x) none) Q E s := by
  unfold raiseStmt
  refine wpAny_bind (wpAny_mono h (fun v s1 z => ?_) fun _ _ z => z)
  obtain ⟨e, oe, vs, rfl, X, he, hc, hd, h1, hE⟩ := z
  obtain ⟨hp, g, d, t, os⟩ := s1
  have L0 : PySem.W.Looks M hp (typeOf (.ref e)) (.ref C) := hc ▸ (PySem.W.Looks.ld he).andThen .now
  have L1 : PySem.W.Looks M hp (isType (.ref e)) false := by
    intro A' Q' E' s' kp q
    unfold isType loadHead
    refine wpAny_bind (wpAny_loadPart (kp _ _ he) ?_)
    rw [hd]
    exact wpAny_pure q
  have L2 : PySem.W.Looks M hp (isInstance (.ref e) (.type "BaseException")) true := L0.andThen (PySem.W.looks_mroIn X k.base)
  have L3 := PySem.W.looks_typeIn (M := M) X k.ty
  refine wpAny_bind (wpAny_pure (wpAny_bind (wpAny_holding ?_)))
  unfold excFromValue isExcClass
  refine wpAny_bind (wpAny_bind (L1.at ?_))
  simp only [Bool.false_eq_true, if_false]
  refine wpAny_pure (wpAny_bind (L2.at ?_))
  simp only [if_true]
  refine wpAny_pure ?_
  refine wpAny_bind (L1.at ?_)
  simp only [Bool.false_eq_true, if_false]
  unfold raisedInstance
  refine wpAny_bind (wpAny_bind (L0.at (wpAny_bind (L3.at ?_))))
  rw [if_pos (by decide)]
  refine wpAny_pure (wpAny_bind ?_)
  unfold setFlight
  refine wpAny_bind (wpAny_field he hd h1 ?_)
  rw [if_neg (by decide)]
  exact wpAny_pure (wpAny_raiseNew_none hh hE)
def spInit (C : Addr) (f : Str) : Sp := fun vs H Q _ => ∃ e v, vs = [.ref e, v] ∧ H e = some (ExN e C none) ∧ ∀ dx, H dx = none → Q .non (upd (upd H dx (.xd [(f, v)])) e (ExN e C (some dx)))
structure XCl (P : Program) (w : World) (K : PySem.W.Frag) (mg : Str → Option Value) (base : Heap) (k : Nat) (C : Addr) (f : Str) (ps : List Str) : Prop where
  ex : ∃ fI fd, FnOk P w K mg base CX0 k fI fd ps (spInit C f) ∧ XI K C fI ∧ PySem.W.keepIn K (.ref C) = true ∧ Binds K fd ps []
def HasX (K : PySem.W.Frag) (C : Addr) (qual : Str) (st : Stmt) : Prop := ∃ f fd, Fun K "__init__" qual st f fd ∧ XI K C f ∧ PySem.W.keepIn K (.ref C) = true
theorem XCl.of {P : Program} {w : World} {K : PySem.W.Frag} {mg : Str → Option Value} {base : Heap} {C : Addr} {f qual : Str} {st : Stmt} {N ps : List Str} {k : Nat} (T : HasX K C qual st) (S : FnScope N ps (defScope st)) (hps : ps.length = 2)
    (hb : ∀ (kV doc pm : Value) (an : Option Addr) (cdv ct : Value) (us : List Value), us.length = ps.length → bindArgs (PySem.W.fnOf "__init__" qual (defArgs st) (defBody st) (defScope st) .none kV doc pm an cdv ct) ⟨us, []⟩ = pure (ps.zip us))
    (hbody : ∀ (f' : Addr) (cdv : Value) (A : Around) (outer : List Env) (s : Shared) (H : Hp) (vs : List V) (Q : VK) (E : XK), XI K C f' → Room k (A.deeper (envOfC qual (defScope st) s.heap.objs.size f' cdv)) → spInit C f vs H Q E →
      ∃ t, PSs (cxOf CX0 P w K mg base N qual (defScope st) f' cdv A outer s H E).nox (defBody st) t ∧ t { nx := fun _ H' => Q .non H', rt := Q } (start N vs) H) : XCl P w K mg base (k + 1) C f ps := by
  obtain ⟨fI, fd, F, x, kp⟩ := T
  refine ⟨fI, fd, F.ok S (fun vs H Q E h => ?_) (fun cdv A outer s H vs Q E => hbody fI cdv A outer s H vs Q E x), x, kp, F.binds hb⟩
  obtain ⟨e, v, rfl, _⟩ := h
  exact hps.symm
section
variable {P : Program} {w : World} {K : PySem.W.Frag} {mg : Str → Option Value} {base : Heap} {N : List Str} {qual : Str} {scope : Scope} {f : Addr} {cd : Value} {A : Around} {outer : List Env} {s : Shared} {H : Hp} {E : XK}
theorem ps_raise1 {x : Str} {C : Addr} {fl : Str} {ps : List Str} {j k : Nat} {e1 : Expr} {ta : TA} {np cpos pos : Pos} (M : XCl P w K mg base j C fl ps) (hr : Room k (cxOf (CXe P w) P w K mg base N qual scope f cd A outer s H E).A) (hg : Gl (cxOf (CXe P w) P w K mg base N qual scope f cd A outer s H E) x) (hm : mg x = some (.ref C)) (k1 : XK1 K C)
    (ha : PA (cxOf (CXe P w) P w K mg base N qual scope f cd A outer s H E) [e1] ta) (hjk : j + 1 ≤ k := by decide) (hd : (x == ("__debug__" : Str)) = false := by decide)
    (he : starEach [e1] (cxOf (CXe P w) P w K mg base N qual scope f cd A outer s H E).env = (false, eval e1 (cxOf (CXe P w) P w K mg base N qual scope f cd A outer s H E).env) :: starEach [] (cxOf (CXe P w) P w K mg base N qual scope f cd A outer s H E).env := by rfl) :
    PS (cxOf (CXe P w) P w K mg base N qual scope f cd A outer s H E) (.Raise (some (.Call (.Name x np) [e1] [] cpos)) none pos) (fun _ σ H' => ta σ H' fun vs H2 => ∃ v, vs = [v] ∧ ∀ dx, H2 dx = none → E (.ref C) (some dx) (upd H2 dx (.xd [(fl, v)]))) := by
  intro pins s1 σ H1 D I h
  obtain ⟨fI, fd, F, xi, kp, hb⟩ := M.ex
  rw [arm_exec_Raise]
  refine wpAny_bind (wpAny_standAt (exc_raise (K := K) (C := C) (I.ok.hd rfl) k1 ?_))
  refine wpAny_bind (wpAny_mono (wpAny_Call_Name_kw (ld_glob I hg hm ?_ hd)) (fun v s2 z => wpAny_bind (wpAny_standAt (wpAny_pure z))) fun _ _ z => z)
  refine PySem.W.callWith_K (h₀ := base) I.ok.mod.kin kp (thn (ha cpos pins s1 σ H1 _ I h) fun us s2 ⟨vs, H2, I2, r, v, ev, q⟩ => ⟨I2.kIn, ?_⟩) he rfl
  subst ev
  obtain ⟨u, rfl, ru⟩ := vals1 r
  obtain ⟨N', nm, q', bs, bm, hdct, sn, sub, ab, col, dd, k0, k1', k2, k3, k5, hC, T⟩ := xi.here I2.kIn
  have tf : PySem.W.typeIn K (.ref fI) = some (.type "function") := beq_iff_eq.mp xi.fn
  obtain ⟨oI, hI, cI⟩ := Option.map_eq_some_iff.mp tf
  obtain ⟨hh, g, d, t, os⟩ := s2
  refine exc_make hC T (PySem.W.looks_findIn I2.kIn xi.ini) (I2.kIn _ _ hI) cI (by show 1 ≤ sizeLine; decide) fun h' e m => ?_
  have G : Gone (cxOf (CXe P w) P w K mg base N qual scope f cd A outer s H E).stack e [] hh h' := ⟨fun b o q _ _ _ => m.keeps b o q, fun b o q _ => ⟨o.slots, m.keeps b o q⟩⟩
  have ne : H2 e = none := HOk.un_at I2.hok m.new
  obtain ⟨t0, ge, _⟩ := m.there
  have I3 : Inv (cxOf (CXe P w) P w K mg base N qual scope f cd A outer s H E) pins σ (upd H2 e (ExN e C none)) ⟨h', g, d, t, os⟩ := I2.flown (t' := t) rfl rfl rfl G (I2.fr1 rfl m.new) (fun b z => by cases z) ne (.inr ⟨_, rfl⟩) ((I2.hok.kept m.keeps).take ne ⟨⟨_, _, t0, ge, rfl, rfl, rfl, rfl, rfl⟩, ⟨_, ge⟩, fun g1 g2 ⟨o, vs, a0, q, r⟩ k => ⟨o, vs, a0, k o q, r⟩⟩)
  have hsp : spInit C fl [.ref e, v] (upd H2 e (ExN e C none)) (fun v' H' => v' = .non ∧ ∃ dx, H2 dx = none ∧ dx ≠ e ∧ H' = upd (upd (upd H2 e (ExN e C none)) dx (.xd [(fl, v)])) e (ExN e C (some dx))) E0 := ⟨e, v, rfl, upd_same, fun dx hdx => by
    have z : dx ≠ e := fun z => by rw [z, upd_same] at hdx; cases hdx
    rw [upd_ne z] at hdx
    exact ⟨rfl, dx, hdx, z, rfl⟩⟩
  refine wpAny_call (codeAny_mono (F.run _ (cxOf (CXe P w) P w K mg base N qual scope f cd A outer s H E).stack ⟨h', g, d, t, os⟩ _ ⟨[.ref e, u], []⟩ [.ref e, u] [.ref e, v] _ E0 ((hr.mono hjk).make C [u] []) (I3.env0.make C [u] []) (hb _ [.ref e, u] I3.kIn (F.len _ _ _ _ hsp)) (.cons rfl (.cons ru .nil)) hsp) fun r s3 hq => ?_)
  cases r with
  | error z => exact False.elim hq
  | ok fw =>
    cases fw with
    | next => exact False.elim hq
    | brk => exact False.elim hq
    | cont => exact False.elim hq
    | ret uu =>
      obtain ⟨v', H', I4, rv, ev, dx, hdx, ne2, eH⟩ := I3.after hq
      subst ev
      subst eH
      obtain ⟨⟨oe, fs, a0, o1, o2, o3, o4, o5, o6⟩, _⟩ := I4.hok e _ upd_same
      refine ⟨rv, e, oe, fs, rfl, I4.kIn, o1, o2, o4, o6, ?_⟩
      have I5 := I4.drop (a := e) upd_same
      have eD : dropH (upd (upd (upd H2 e (ExN e C none)) dx (.xd [(fl, v)])) e (ExN e C (some dx))) e = upd H2 dx (.xd [(fl, v)]) := by
        funext b
        by_cases z : b = e
        · rw [z]
          unfold dropH
          rw [if_pos rfl, upd_ne (Ne.symm ne2), ne]
        · rw [drop_ne z, upd_ne z]
          by_cases z2 : b = dx
          · rw [z2, upd_same, upd_same]
          · rw [upd_ne z2, upd_ne z2, upd_ne z]
      rw [eD] at I5
      exact fly_first I5 o1 o4 o6 (I2.up rfl m.new) (by rw [upd_ne (Ne.symm ne2)]; exact ne) (by rw [o2, o3]; exact q dx hdx)
end
end L2
set_option Elab.async false
set_option linter.all false
set_option maxRecDepth 100000
set_option maxHeartbeats 2000000
namespace XC
open PySem
section
variable {M : Model} {A : Around} {E : Value → Shared → Prop} {s : Shared}
theorem note_any {base : Heap} {env : Env} {outer : List Env} {L e T : Addr} {cls fl : Value} {dd : Option Addr} {Q : Unit → Shared → Prop}
    (hfr : A.frames = some (env :: outer)) (hl : s.heap.FunFrames base (env :: outer)) (hf : env.frame = some L) (ht : Tr s.heap e cls dd T fl) (hfl : (fl == rawInt L) = false)
    (h : ∀ h' T', Gone (env :: outer) e [T] s.heap h' → s.heap.get? T' = none → Tr h' e cls dd T' (rawInt L) → Q () { s with heap := h' }) : wpAny M A (noteFrame (.ref e) env) Q E s := by
  obtain ⟨k1, oe, vs, oT, ts, a1, a2, a2', a3, a4, a5, a6, a7, a8⟩ := flight_at (x := .none) ht
  obtain ⟨oe0, vs0, oT0, ts0, h1, h2, h2', h3, h4, h5, h6, h7, h8⟩ := ht
  unfold noteFrame
  simp only [hf]
  refine wpAny_bind (wpAny_field h1 h3 h4 ?_)
  rw [if_pos (show (Value.ref T != Value.none) = true from by simp)]
  refine wpAny_bind (wpAny_field h6 h7 h8 ?_)
  rw [if_neg (by rw [hfl]; exact Bool.false_ne_true)]
  have nT : T ∉ frsOf (env :: outer) := fun z => by
    obtain ⟨_, o, q, n⟩ := frames_free hl T z
    rw [h6] at q
    cases q
    exact n ts0 h7
  have nt : ∀ b o, s.heap.get? b = some o → (∀ vs, o.data ≠ .fields vs) → b ≠ T := fun b o q n z => by
    rw [z, h6] at q
    cases q
    exact n ts0 h7
  refine wpAny_bind (wpAny_setField h6 h7 (Array.getElem?_eq_some_iff.mp h8).1 ?_)
  refine entry_ok hfr (hl.of_keeps fun b o q n => ⟨o, k1 b o (nt b o q n) q, rfl⟩) hf a1 a3 (Array.getElem?_eq_some_iff.mp a4).1 fun h' T' G n t => ?_
  refine h h' T' ⟨fun b o q z w u => G.keep b o (k1 b o (fun z => w (by rw [z]; exact List.mem_singleton_self _)) q) z (by simp) u, fun b o q w => G.slot b o (k1 b o (fun z => nT (z ▸ w)) q) w⟩ ?_ (by rw [← a2, ← a2']; exact t)
  cases q : s.heap.get? T' with
  | none => rfl
  | some o =>
    by_cases z : T' = T
    · rw [z, a6] at n
      cases n
    · rw [show (s.heap.update T (Obj.mapFields (·.setIfInBounds 3 Value.none))).get? T' = some o from k1 T' o z q] at n
      cases n
theorem leave_any {base : Heap} {env : Env} {outer : List Env} {L e T : Addr} {cls fl : Value} {dd : Option Addr} {Q : Unit → Shared → Prop}
    (hfr : A.frames = some (env :: outer)) (hl : s.heap.FunFrames base (env :: outer)) (hf : env.frame = some L) (ht : Tr s.heap e cls dd T fl)
    (h : ∀ h' T', Gone (env :: outer) e [T] s.heap h' → (s.heap.get? T' = none ∨ T' = T) → Tr h' e cls dd T' .none → Q () { s with heap := h' }) : wpAny M A (leaving env (.ref e)) Q E s := by
  unfold leaving
  cases hfl : (fl == rawInt L) with
  | false => exact wpAny_bind (note_any hfr hl hf ht hfl fun h' T' G n t => fly_off t fun h2 k t2 => h h2 T' (G.off k (.inl n) (new_notIn n hl)) (.inl n) t2)
  | true =>
    have e1 : fl = rawInt L := by simpa using hfl
    subst e1
    have nT := ht.notIn hl
    refine wpAny_bind (note_same hf ht (fly_off ht fun h2 k t2 => h h2 T ⟨fun b o q z w u => k b o (fun y => w (by rw [y]; exact List.mem_singleton_self _)) q, fun b o q w => ⟨o.slots, k b o (fun y => nT (y ▸ w)) q⟩⟩ (.inr rfl) t2))
theorem pass_on {what : String} {cenv : Env} {e T : Addr} {cls fl : Value} {dd : Option Addr} {α : Type} (ht : Tr s.heap e cls dd T fl)
    (h : ∀ h', (∀ b o, b ≠ T → s.heap.get? b = some o → h'.get? b = some o) → Tr h' e cls dd T (cenv.frame.elim .none fun f => rawInt f) → E (.ref e) { s with heap := h' }) : wpAny M A (passOn what (.ref e) cenv : Sem α) (fun _ _ => False) E s := by
  obtain ⟨k, t⟩ := flight_at (x := cenv.frame.elim .none fun f => rawInt f) ht
  obtain ⟨oe, vs, oT, ts, h1, h2, h2', h3, h4, h5, h6, h7, h8⟩ := ht
  unfold passOn setFlight
  refine wpAny_bind (wpAny_field h1 h3 h4 ?_)
  rw [if_neg (by simp)]
  refine wpAny_bind (wpAny_bind (wpAny_field h1 h3 h4 ?_))
  rw [if_pos (show (Value.ref T != Value.none) = true from by simp)]
  exact wpAny_setField h6 h7 (Array.getElem?_eq_some_iff.mp h8).1 (wpAny_throw (h _ k t))
theorem Tr.keep {h h' : Heap} {e T : Addr} {cls fl : Value} {dd : Option Addr} (ht : Tr h e cls dd T fl) (k : ∀ b o, (b = e ∨ b = T) → h.get? b = some o → h'.get? b = some o) : Tr h' e cls dd T fl := by
  obtain ⟨oe, vs, oT, ts, h1, h2, h2', h3, h4, h5, h6, h7, h8⟩ := ht
  exact ⟨oe, vs, oT, ts, k _ _ (.inl rfl) h1, h2, h2', h3, h4, h5, k _ _ (.inr rfl) h6, h7, h8⟩
end
end XC
namespace L2
open PySem PySem.Spec PyProof.Rows XC
section
variable {P : Program} {w : World} {K : PySem.W.Frag} {mg : Str → Option Value} {base : Heap} {N : List Str} {qual : Str} {scope : Scope} {f : Addr} {cd : Value} {A : Around} {outer : List Env} {s : Shared} {H : Hp} {E : XK} {pins : List (Addr × Obj)} {σ : St} {H' : Hp} {s' : Shared}
theorem fly_any (I : Inv (cxOf (CXe P w) P w K mg base N qual scope f cd A outer s H E) pins σ H' s') {a T : Addr} {cls fl : Value} {dd : Option Addr} (ht : Tr s'.heap a cls dd T fl) (new : s.heap.get? a = none) (newT : s.heap.get? T = none) (fr : H' a = none) (frT : H' T = none) (hE : E cls dd H') :
    (cxOf (CXe P w) P w K mg base N qual scope f cd A outer s H E).xe (.ref a) s' := by
  refine leave_any (base := base) (L := s.heap.objs.size) I.ok.frames I.stack rfl ht fun h' T' G hT' ht' => ?_
  have z : s.heap.get? T' = none ∧ H' T' = none := by
    rcases hT' with z | z
    · exact ⟨I.up rfl z, HOk.un_at I.hok z⟩
    · rw [z]; exact ⟨newT, frT⟩
  exact ⟨a, T', cls, dd, H', rfl, I.os, I.bare, Un.gone I.base G new (fun b z => by rw [List.mem_singleton.mp z]; exact newT) loc_new I.ok.frf, HOk.gone I.hok G fr (fun b z => by rw [List.mem_singleton.mp z]; exact frT) I.stkFree, new, fr, ht', z.1, z.2, hE⟩
end
section
variable {X : Cx} {tg elt iter : Expr} {ifs : List Expr} {sc : Scope} {pos : Pos} {M : List Str} {ρ : List (Option Nat)} {wi : TI} {g : TG} {tt : TT} {te : TE}
theorem comp_blockE {E : XK} (osc : Scope) (hosc : X.env.scope = osc) (N : List Str) (hN : X.N = N) (S : CompScope osc N sc M ρ) (hc : X.calm = true)
    (hg : ∀ cl C s H fp xe, PG (cxComp X sc cl C M s H fp xe) tg g) (ht : ∀ cl C s H fp xe, PTs (cxComp X sc cl C M s H fp xe) ifs tt) (he : ∀ cl C s H fp xe, Passes (CXe X.prog X.w) (cxComp X sc cl C M s H fp xe) E → PE (cxComp X sc cl C M s H fp xe) elt te)
    {pins : List (Addr × Obj)} {σ : St} {H : Hp} {s : Shared} {itv : Value} {Q : VK} {RR : Value → Addr → Result → Shared → Prop} (I : Inv X pins σ H s)
    (h2 : PIE X pins σ tg (fun J H1 => ∀ D, H1 D = none → ∃ W : Nat → Nat → St → Hp → Prop, (∃ m, W 0 m (subS ρ σ) (upd H1 D (.lst []))) ∧ ∀ i m σ2 H2, W i m σ2 H2 →
      (J.stop i H2 ∧ Q (.ref D) H2) ∨ (J.go i H2 ∧ ∃ N : St → Hp → Prop, (∀ σ' H', N σ' H' → ∃ m', m' < m ∧ W (i + 1) m' σ' H') ∧ ∀ x H3, J.yld i H2 x H3 → g x σ2 H3 fun σ4 H4 => tt σ4 H4 fun b H5 =>
        if b = true then te σ4 H5 fun y H6 => ∃ ys, H6 D = some (.lst ys) ∧ ys.length < sizeLine ∧ N σ4 (upd H6 D (.lst (ys ++ [y])))
        else N σ4 H5)) itv s)
    (hP : ∀ (cl : List (Str × Addr)) (C D : Addr) (H2 : Hp) (fp : List Addr) (xe : Value → Shared → Prop), Inv X pins σ H2 s → s.heap.objs.size ≤ C → (∀ b ∈ fp, FpOk X pins H2 b) → xe = notedBy (model X.prog X.w) X.A (compEnvC sc cl C X.env) (fun e s' => RR (.ref D) C (.error e) s') → Passes (CXe X.prog X.w) (cxComp X sc cl C M s H2 fp xe) E)
    (hR : ∀ (D C : Addr) (H' : Hp) (s' : Shared) (mC : Str → Option Value), Inv X pins σ H' s' → s'.heap.Ns C mC → FpOk X pins H' C → Q (.ref D) H' → RR (.ref D) C (.ok .next) s') :
    wpAny (model X.prog X.w) X.A (newList []) (fun acc s3 => wpAny (model X.prog X.w) X.A (newFunctionEnv sc X.env.globals (closL X.env.cells sc.names []) [] X.env.qual none .none (some X.env)) (fun cenv s4 =>
      codeAny (model X.prog X.w) X.A (.compStart (.ListComp elt [⟨tg, iter, ifs, 0⟩] sc pos) 0 itv acc { cenv with scope := relabel sc X.env }) (RR acc cenv.locals) s4) X.xe s3) X.xe s := by
  subst hosc hN
  obtain ⟨it, fp, tn, J, H2, rfl, I2, T, st2, f2, q2⟩ := h2
  have hcells : ∀ y ∈ sc.names, y.2 = .free → ∃ c, X.env.cells.lookup y.1 = some c := fun y hy hf => I2.ok.has y.1 (S.fre y hy hf)
  have hclx : ∀ {x c}, (closL X.env.cells sc.names []).lookup x = some c → X.env.cells.lookup x = some c := fun {x c} e => (closL_lookup _ _ hcells e).elim id fun z => by simp at z
  generalize hcl : closL X.env.cells sc.names [] = cl at hclx ⊢
  refine wpAny_newObj_type (wpAny_newFunctionEnv S.nocell (by intro y hy; simp at hy) (fun h1 hns hsb => ?_) S.kind)
  dsimp only at hns hsb ⊢
  generalize hG : s.heap.push { cls := .type "list", dict := none, data := .seq ([] : List Value).toArray } = G at hns hsb ⊢
  have hC : G.objs.size = s.heap.objs.size + 1 := by rw [← hG, Heap.size_push]
  have old : ∀ b o, s.heap.get? b = some o → h1.get? b = some o := fun b o e =>
    hsb.extBut b o (Nat.ne_of_lt (by rw [hC]; exact Nat.lt_succ_of_lt (Heap.lt_size e))) (Heap.get?_push_of_some _ (hG ▸ Heap.get?_push_of_some _ e))
  have hD1 : h1.get? s.heap.objs.size = some { cls := .type "list", dict := none, data := .seq ([] : List Value).toArray } :=
    hsb.extBut _ _ (by rw [hC]; exact Nat.ne_of_lt (Nat.lt_succ_self _)) (Heap.get?_push_of_some _ (hG ▸ Heap.get?_push_size _ rfl))
  have hDn : H2 s.heap.objs.size = none := I2.hok.fresh (Nat.le_refl _)
  obtain ⟨W, ⟨m0, w0⟩, turn⟩ := q2 s.heap.objs.size hDn
  have hCle : s.heap.objs.size ≤ G.objs.size := by rw [hC]; exact Nat.le_succ _
  have hCD : G.objs.size ≠ s.heap.objs.size := by rw [hC]; exact Nat.succ_ne_self _
  generalize hxe : notedBy (model X.prog X.w) X.A (compEnvC sc cl G.objs.size X.env) (fun e s' => RR (.ref s.heap.objs.size) G.objs.size (.error e) s') = xe
  have hpass := hP cl G.objs.size s.heap.objs.size H2 fp xe I2 hCle f2 hxe.symm
  have fpC : ∀ b ∈ fp, b ≠ G.objs.size := fun b hb => by
    obtain ⟨o, e, _⟩ := T.obj 0 _ st2 b hb
    have := Heap.lt_size e
    exact Nat.ne_of_lt (Nat.lt_of_lt_of_le this hCle)
  have fpS : ∀ b ∈ fp, b ∉ frs X.stack := fun b hb z => by
    obtain ⟨f0, f1, f3, _⟩ := f2 b hb
    rcases List.mem_cons.mp (I2.stkSub b z) with e | e
    · exact f1 e
    · exact f3 e
  have hok : (cxComp X sc cl G.objs.size M s H2 fp xe).Ok := by
    refine ⟨I2.ok.mod, S.kind, I2.ok.glob, I2.ok.blt, hCle, fun x y c e1 e2 => I2.ok.inj x y c (hclx e1) (hclx e2), fun x hx => ?_, (fun x c e _ => absurd (show false = true from e) Bool.false_ne_true), I2.ok.hd, I2.ok.frames, .inl rfl, fun b hb => ⟨fpC b hb, fun x c e => (f2 b hb).2.2.2.2.1 x c (hclx e)⟩,
      I2.bs, Nat.le_trans I2.ok.bsz I2.sz, fun b o e hb => ?_, fpS, I2.stack, I2.stkFree⟩
    · rcases relabel_back (names := sc.names) (env := X.env) hx with q | q
      · rw [← hcl]; exact closL_has _ _ q
      · exact absurd rfl (S.nocell _ q)
    · rcases (f2 b hb).2.2.2.1 with z | z
      · exact I2.ok.noex b o e z
      · exact absurd (Nat.lt_of_lt_of_le (Heap.lt_size e) (Nat.le_trans I2.ok.bsz z)) (Nat.lt_irrefl _)
  have I4 : Inv (cxComp X sc cl G.objs.size M s H2 fp xe) [] (subS ρ σ) (upd H2 s.heap.objs.size (.lst [])) { s with heap := h1, toks := s.toks + ([] : List (Str × Value)).length } := by
    refine ⟨hok, rfl, I2.bare, Un.laid old (Nat.le_refl _) hDn, ⟨_, hns, fun j x v e1 e2 _ => ?_⟩, fun x c e => ?_, ?_, fun x c e => ?_, fun p hp => absurd (show p ∈ ([] : List (Addr × Obj)) from hp) (by simp), I2.hok.laid old (Nat.le_refl _) ⟨by show 0 ≤ sizeLine; decide, [], 0, .nil, hD1⟩, ?_⟩
    · unfold subS at e2
      rw [List.getElem?_map] at e2
      cases q : ρ[j]? with
      | none => rw [q] at e2; cases e2
      | some o =>
        rw [q] at e2
        cases o with
        | none => cases e2
        | some i =>
          have e2' : (σ[i]?).join = some v := Option.some.inj e2
          have e3 : σ[i]? = some (some v) := by
            cases z : σ[i]? with
            | none => rw [z] at e2'; cases e2'
            | some y => rw [z] at e2'; cases y with
              | none => cases e2'
              | some y => cases e2'; rfl
          have hz : (ρ.zip M)[j]? = some (some i, x) := List.getElem?_zip_eq_some.mpr ⟨q, e1⟩
          have hr := S.ren (some i, x) (List.mem_of_getElem? hz)
          obtain ⟨r1, r2⟩ := of_decide_eq_true hr
          obtain ⟨m, hn, hl⟩ := I2.loc
          have hfr := S.fre _ (PySem.mem_of_lookup r2) rfl
          obtain ⟨u, ru, lk⟩ := hl i x v r1 e3 (hfr.elim (fun z => .inr (.inl z)) fun z => .inr (.inr z))
          refine ⟨u, ru, ?_⟩
          rcases lk with ⟨k, _⟩ | ⟨_, c, hcc, cell⟩
          · have k' : X.env.scope.names.lookup x = some .local := k
            rcases hfr with z | z
            · rw [k'] at z; cases z
            · rw [k'] at z; cases z
          · obtain ⟨c', hc'⟩ := closL_has (cells := X.env.cells) sc.names [] (PySem.mem_of_lookup r2)
            rw [hcl] at hc'
            have := hclx hc'
            rw [hcc] at this
            cases this
            obtain ⟨oc, ho, hd⟩ := cell
            exact .inr ⟨relabel_free r2, _, hc', oc, old _ _ ho, hd⟩
    · obtain ⟨v, oc, ho, hd⟩ := I2.cell x c (hclx e)
      exact ⟨v, oc, old _ _ ho, hd⟩
    · show upd H2 s.heap.objs.size (.lst []) G.objs.size = none
      rw [upd_ne hCD]
      exact I2.hok.fresh hCle
    · show upd H2 s.heap.objs.size (.lst []) c = none
      obtain ⟨v, oc, ho, hd⟩ := I2.cell x c (hclx e)
      rw [upd_ne (Nat.ne_of_lt (Heap.lt_size ho))]
      exact I2.freeC x c (hclx e)
    · show (subS ρ σ).length = M.length
      unfold subS
      rw [List.length_map, S.len]
  have st4 : tn 0 h1 := T.keep 0 _ _ st2 fun b _ o e => old b o e
  have fr4 : ∀ b ∈ fp, upd H2 s.heap.objs.size (.lst []) b = none := fun b hb => by
    obtain ⟨o, e, _⟩ := T.obj 0 _ st2 b hb
    rw [upd_ne (Nat.ne_of_lt (Heap.lt_size e))]
    exact (f2 b hb).1
  have stat : ∀ {H' : Hp}, (∀ b ∈ fp, H' b = none) → ∀ b ∈ fp, FpOk (cxComp X sc cl G.objs.size M s H2 fp xe) [] H' b := fun hn b hb =>
    ⟨hn b hb, fpC b hb, fpS b hb, .inl hb, fun x c e => (f2 b hb).2.2.2.2.1 x c (hclx e), fun p hp => absurd (show p ∈ ([] : List (Addr × Obj)) from hp) (by simp)⟩
  have loop : codeAny (model X.prog X.w) X.A (.compLoop (.ListComp elt [⟨tg, iter, ifs, 0⟩] sc pos) 0 (.ref it) (.ref s.heap.objs.size) (compEnvC sc cl G.objs.size X.env)) (RR (.ref s.heap.objs.size) G.objs.size)
      { s with heap := h1, toks := s.toks + ([] : List (Str × Value)).length } := by
    refine comp_loop (fun n s' => ∃ i σ' H', Inv (cxComp X sc cl G.objs.size M s H2 fp xe) [] σ' H' s' ∧ tn i s'.heap ∧ (∀ b ∈ fp, H' b = none) ∧ W i n σ' H') ?_ m0 ⟨0, _, _, I4, st4, fr4, w0⟩
    rw [hxe]
    rintro n s3 ⟨i, σ3, H3, I3, st3, fr3, w3⟩
    rcases turn i n σ3 H3 w3 with ⟨stop, qn⟩ | ⟨go, N, hN, step⟩
    · refine thn (T.done (cxComp X sc cl G.objs.size M s H2 fp xe) rfl rfl rfl hc i [] s3 σ3 H3 xe I3 (stat fr3) st3 stop) fun r s4 ⟨hr, I5⟩ => ?_
      subst hr
      obtain ⟨mC, nC, _⟩ := I5.loc
      have I6 : Inv X pins σ H3 s4 := I2.call' I5.os I5.base I5.hok I5.bare fun b hb => ⟨(f2 b hb).2.2.2.1, (f2 b hb).2.1, (f2 b hb).2.2.2.2.1, (f2 b hb).2.2.2.2.2⟩
      exact hR _ _ H3 s4 mC I6 nC (I2.fpOk hCle I5.free) qn
    · refine thn (T.item (cxComp X sc cl G.objs.size M s H2 fp xe) rfl rfl rfl hc i [] s3 σ3 H3 xe I3 (stat fr3) st3 go) fun r s4 ⟨u, hr, h4⟩ => ?_
      subst hr
      refine thn h4 fun _ s5 ⟨x, H5, I5, r5, y5, st5, fr5⟩ => ?_
      have I5' := I5.pinned (stat fr5) (T.obj _ _ st5)
      refine thn (hg cl G.objs.size s H2 fp xe _ s5 σ3 H5 x u _ I5' r5 (step x H5 y5)) fun _ s6 ⟨σ6, H6, I6, q6⟩ => ?_
      have fin : ∀ {s7 : Shared} {σ7 : St} {H7 : Hp}, Inv (cxComp X sc cl G.objs.size M s H2 fp xe) ([] ++ pinsAt fp s5.heap) σ7 H7 s7 → (∃ m', m' < n ∧ W (i + 1) m' σ7 H7) →
          ∃ m, m < n ∧ ∃ i σ' H', Inv (cxComp X sc cl G.objs.size M s H2 fp xe) [] σ' H' s7 ∧ tn i s7.heap ∧ (∀ b ∈ fp, H' b = none) ∧ W i m σ' H' := fun {s7 σ7 H7} I7 ⟨m', hm, w7⟩ => by
        refine ⟨m', hm, i + 1, σ7, H7, I7.unpinned, T.keep _ _ _ st5 fun b hb o e => (I7.pin (b, o) (List.mem_append_right _ (List.mem_append_right _ (mem_pinsAt hb e)))).1, fun b hb => ?_, w7⟩
        obtain ⟨o, e, d⟩ := T.obj _ _ st5 b hb
        exact (I7.pin (b, o) (List.mem_append_right _ (List.mem_append_right _ (mem_pinsAt hb e)))).2.1
      refine thn (ht cl G.objs.size s H2 fp xe _ s6 σ6 H6 _ I6 q6) fun ok s7 ⟨H7, I7, q7⟩ => ?_
      cases ok with
      | false =>
        rw [if_neg Bool.false_ne_true] at q7 ⊢
        exact fin I7 (hN _ _ q7)
      | true =>
        rw [if_pos rfl] at q7 ⊢
        refine thn (he cl G.objs.size s H2 fp xe hpass _ s7 σ6 H7 _ I7 q7) fun y s8 ⟨yv, H8, I8, r8, ys, hys, hlt, q8⟩ => ?_
        obtain ⟨z, its, k, rv, hl, e⟩ := I8.lstM hys
        refine call_meets F.slot_list_append ⟨_, e, rfl⟩ F.entry_list_append (F.args_list_append_2 _ _) (PySem.list_append _ its.toArray k y (by rw [List.size_toArray]; omega)) ⟨e, ?_⟩
        exact fin (I8.lset (its' := its ++ [y]) hys e (by simp) (rv.append (.cons r8 .nil)) (by rw [List.length_append, List.length_singleton]; omega)) (hN _ _ q8)
  exact codeAny_compStart_list loop (T.self X.A 0 _ _ _ st4 loop)
end
section
variable {P : Program} {w : World} {K : PySem.W.Frag} {mg : Str → Option Value} {base : Heap} {N' : List Str} {qual : Str} {scope : Scope} {f : Addr} {cd : Value} {A : Around} {outer : List Env} {s0 : Shared} {H0 : Hp} {E : XK}
variable {tg elt iter : Expr} {ifs : List Expr} {sc : Scope} {pos : Pos} {M : List Str} {ρ : List (Option Nat)} {wi : TI} {g : TG} {tt : TT} {te : TE}
theorem pass_block {pins : List (Addr × Obj)} {σ : St} {H2 : Hp} {s : Shared} {cl : List (Str × Addr)} {C D : Addr} {fp : List Addr} {xe : Value → Shared → Prop} {use : Option (Value → Sem Unit)} {Q : Value → Shared → Prop}
    (I2 : Inv (cxOf (CXe P w) P w K mg base N' qual scope f cd A outer s0 H0 E) pins σ H2 s) (hC : s.heap.objs.size ≤ C) (hfp : ∀ b ∈ fp, FpOk (cxOf (CXe P w) P w K mg base N' qual scope f cd A outer s0 H0 E) pins H2 b)
    (hxe : xe = notedBy (model P w) (cxOf (CXe P w) P w K mg base N' qual scope f cd A outer s0 H0 E).A (compEnvC sc cl C (cxOf (CXe P w) P w K mg base N' qual scope f cd A outer s0 H0 E).env) (fun e s' => compPost (model P w) (cxOf (CXe P w) P w K mg base N' qual scope f cd A outer s0 H0 E).A (cxOf (CXe P w) P w K mg base N' qual scope f cd A outer s0 H0 E).xe use Q (.ref D) C (.error e) s')) :
    Passes (CXe P w) (cxComp (cxOf (CXe P w) P w K mg base N' qual scope f cd A outer s0 H0 E) sc cl C M s H2 fp xe) E := by
  intro pins' σ' H1 s1 v s2 I1 h
  obtain ⟨a, T, cls, dd, H3, rfl, os, bare, un, hok, new, fr, ht, newT, frT, hE⟩ := h
  have J2 := Inv.call' (ch := []) I1 os un hok bare (fun b z => by cases z)
  have I3 : Inv (cxOf (CXe P w) P w K mg base N' qual scope f cd A outer s0 H0 E) pins σ H1 s1 := I2.call' I1.os I1.base I1.hok I1.bare fun b hb => ⟨(hfp b hb).2.2.2.1, (hfp b hb).2.1, (hfp b hb).2.2.2.2.1, (hfp b hb).2.2.2.2.2⟩
  have I4 : Inv (cxOf (CXe P w) P w K mg base N' qual scope f cd A outer s0 H0 E) pins σ H3 s2 := I2.call' J2.os J2.base J2.hok J2.bare fun b hb => ⟨(hfp b hb).2.2.2.1, (hfp b hb).2.1, (hfp b hb).2.2.2.2.1, (hfp b hb).2.2.2.2.2⟩
  have fa := I3.fr1 rfl new
  have fT := I3.fr1 rfl newT
  show xe (.ref a) s2
  rw [hxe]
  show wpAny (model P w) _ (noteFrame (.ref a) (cxOf (CXe P w) P w K mg base N' qual scope f cd A outer s0 H0 E).env) _ _ s2
  refine note_next (base := base) I4.ok.frames I4.stack rfl ht fun h3 T3 G3 n3 t3 => ?_
  obtain ⟨mC, ⟨oC, es, ep, hoC, rC⟩, _⟩ := J2.loc
  have Ca : C ≠ a := fun z => by
    obtain ⟨m, ⟨o, _, _, ho, _⟩, _⟩ := I1.loc
    rw [show (cxComp (cxOf (CXe P w) P w K mg base N' qual scope f cd A outer s0 H0 E) sc cl C M s H2 fp xe).env.locals = C from rfl, z, new] at ho
    cases ho
  have CT : C ≠ T := fun z => by
    obtain ⟨m, ⟨o, _, _, ho, _⟩, _⟩ := I1.loc
    rw [show (cxComp (cxOf (CXe P w) P w K mg base N' qual scope f cd A outer s0 H0 E) sc cl C M s H2 fp xe).env.locals = C from rfl, z, newT] at ho
    cases ho
  have CF : C ∉ frsOf (cxOf (CXe P w) P w K mg base N' qual scope f cd A outer s0 H0 E).stack := fun z => by
    obtain ⟨_, o, q, _⟩ := frames_free I2.stack C z
    exact absurd (Nat.lt_of_lt_of_le (Heap.lt_size q) hC) (Nat.lt_irrefl _)
  have CT3 : C ≠ T3 := fun z => by
    have q : s2.heap.get? C = some oC := hoC
    rw [z, n3] at q
    cases q
  have kC : h3.get? C = some oC := G3.keep C oC hoC Ca (by intro z; exact CT (List.mem_singleton.mp z)) CF
  have frC : H3 C = none := J2.free
  refine ⟨mC, ⟨oC, es, ep, kC, rC⟩, fun h4 sb cenv _ => pass_on (t3.keep fun b o hb q => (sb.2 b ?_).trans q) fun h5 k5 t5 => ?_⟩
  · rcases hb with z | z
    · rw [z]; exact Ne.symm Ca
    · rw [z]; exact Ne.symm CT3
  · have ok3 : HOk P w H3 h3 := HOk.gone I4.hok G3 fr (fun b z => by rw [List.mem_singleton.mp z]; exact frT) I4.stkFree
    have f3 := I4.fr1 rfl n3
    have r3 : H3 T3 = none := HOk.un_at I4.hok n3
    have I5 : Inv (cxOf (CXe P w) P w K mg base N' qual scope f cd A outer s0 H0 E) pins σ H3 { s2 with heap := h3 } := I4.flown (t' := s2.toks) rfl rfl rfl G3 fa (fun b z => by rw [List.mem_singleton.mp z]; exact fT) fr (.inl rfl) ok3
    have fC := I2.fpOk (H' := H3) hC frC
    have I6 : Inv (cxOf (CXe P w) P w K mg base N' qual scope f cd A outer s0 H0 E) pins σ H3 { s2 with heap := h4 } := I5.turned (t' := s2.toks) (fun b o hb e => (sb.2 b hb).trans e) frC fC.2.1 fC.2.2.2.1 fC.2.2.2.2.1 fC.2.2.2.2.2
    have I7 : Inv (cxOf (CXe P w) P w K mg base N' qual scope f cd A outer s0 H0 E) pins σ H3 { s2 with heap := h5 } := I6.flown (t' := s2.toks) (a := T3) (ts := []) rfl rfl rfl ⟨fun b o q z _ _ => k5 b o z q, fun b o q w => ⟨o.slots, k5 b o (fun z => new_notIn n3 I4.stack (z ▸ w)) q⟩⟩ f3 (fun b z => by cases z) r3 (.inl rfl) (fun b o q => (I6.hok b o q).stay (fun c u hc r => k5 c u (fun z => by
      rcases hc with hc | hc
      · rw [← hc, z, r3] at q; cases q
      · rw [z, r3] at hc; cases hc) r) (fun _ q => q) fun _ _ q => q)
    exact fly_any I7 t5 fa.s0 (I4.up rfl n3) fr r3 hE
end
end L2
set_option Elab.async false
set_option linter.all false
set_option maxRecDepth 100000
set_option maxHeartbeats 2000000
namespace L2
open PySem XC
section
variable {P : Program} {w : World} {K : PySem.W.Frag} {mg : Str → Option Value} {base : Heap} {N' : List Str} {qual : Str} {scope : Scope} {f : Addr} {cd : Value} {A : Around} {outer : List Env} {s0 : Shared} {H0 : Hp} {E : XK}
variable {tg elt iter : Expr} {ifs : List Expr} {sc : Scope} {pos : Pos} {M : List Str} {ρ : List (Option Nat)} {wi : TI} {g : TG} {tt : TT} {te : TE}
theorem ps_setCE {j : Nat} {x : Str} {px spos : Pos} (osc : Scope) (N : List Str) (S : CompScope osc N sc M ρ) (hNd : N'.Nodup) (hj : N'[j]? = some x) (hx : Loc scope x) (hi : PI (cxOf (CXe P w) P w K mg base N' qual scope f cd A outer s0 H0 E) tg iter wi) (hg : ∀ cl C s H fp xe, PG (cxComp (cxOf (CXe P w) P w K mg base N' qual scope f cd A outer s0 H0 E) sc cl C M s H fp xe) tg g)
    (ht : ∀ cl C s H fp xe, PTs (cxComp (cxOf (CXe P w) P w K mg base N' qual scope f cd A outer s0 H0 E) sc cl C M s H fp xe) ifs tt) (he : ∀ cl C s H fp xe, Passes (CXe P w) (cxComp (cxOf (CXe P w) P w K mg base N' qual scope f cd A outer s0 H0 E) sc cl C M s H fp xe) E → PE (cxComp (cxOf (CXe P w) P w K mg base N' qual scope f cd A outer s0 H0 E) sc cl C M s H fp xe) elt te)
    (hsw : swapsWith (.ListComp elt [⟨tg, iter, ifs, 0⟩] sc pos) (some (.Name x px)) spos.line (cxOf (CXe P w) P w K mg base N' qual scope f cd A outer s0 H0 E).env = pure true := by rfl) (hosc : scope = osc := by rfl) (hN : N' = N := by rfl) (hs : ∀ x, foldedSetIterable iter (cxOf (CXe P w) P w K mg base N' qual scope f cd A outer s0 H0 E).env x = pure x := by intro _; rfl)
    (hf : (cxOf (CXe P w) P w K mg base N' qual scope f cd A outer s0 H0 E).fn x = true ∨ (cxOf (CXe P w) P w K mg base N' qual scope f cd A outer s0 H0 E).env.scope.names.lookup x = some .local := by first | exact .inl rfl | exact .inr rfl | assumption) :
    PS (cxOf (CXe P w) P w K mg base N' qual scope f cd A outer s0 H0 E) (.Assign [.Name x px] (.ListComp elt [⟨tg, iter, ifs, 0⟩] sc pos) spos) (tAsg (tComp wi ρ g tt te) (gName j)) := by
  intro pins s σ H D I h
  have hcells : ∀ y ∈ sc.names, y.2 = .free → ∃ c, (cxOf (CXe P w) P w K mg base N' qual scope f cd A outer s0 H0 E).env.cells.lookup y.1 = some c := fun y hy hf => I.ok.has y.1 (by show scope.names.lookup y.1 = _ ∨ scope.names.lookup y.1 = _; rw [hosc]; exact S.fre y hy hf)
  rw [exec_Assign_Name_used _ _ _ _ hsw]
  refine wpAny_bind (wpAny_standAt (wpAny_bind ?_))
  show wpAny (model P w) (cxOf (CXe P w) P w K mg base N' qual scope f cd A outer s0 H0 E).A (do let _ ← comprehension (.ListComp elt [⟨tg, iter, ifs, 0⟩] sc pos) sc (cxOf (CXe P w) P w K mg base N' qual scope f cd A outer s0 H0 E).env (firstIterPos [⟨tg, iter, ifs, 0⟩] pos) (newList []) false (eval iter (cxOf (CXe P w) P w K mg base N' qual scope f cd A outer s0 H0 E).env) (some (assign (.Name x px) (cxOf (CXe P w) P w K mg base N' qual scope f cd A outer s0 H0 E).env))) _ (cxOf (CXe P w) P w K mg base N' qual scope f cd A outer s0 H0 E).xe s
  refine wpAny_bind (thn (Q := fun _ s' => SP (cxOf (CXe P w) P w K mg base N' qual scope f cd A outer s0 H0 E) pins D .next s') (wpAny_comprehension_free (M := model P w) (A := (cxOf (CXe P w) P w K mg base N' qual scope f cd A outer s0 H0 E).A) (E := (cxOf (CXe P w) P w K mg base N' qual scope f cd A outer s0 H0 E).xe) (e := .ListComp elt [⟨tg, iter, ifs, 0⟩] sc pos) (use := some (assign (.Name x px) (cxOf (CXe P w) P w K mg base N' qual scope f cd A outer s0 H0 E).env)) rfl hs (closure_pure hcells) S.kind S.own
    (thn (hi pins s σ H _ I h) fun v s1 h1 => thn h1 fun itv s2 h2 => ?_)) fun _ s' hq => wpAny_pure (wpAny_pure hq))
  obtain ⟨_, _, _, _, _, _, I2, _⟩ := id h2
  refine comp_blockE (E := E) (Q := fun v H' => gName j v σ H' D.nx) (RR := fun acc C => compPost (model P w) (cxOf (CXe P w) P w K mg base N' qual scope f cd A outer s0 H0 E).A (cxOf (CXe P w) P w K mg base N' qual scope f cd A outer s0 H0 E).xe (some (assign (.Name x px) (cxOf (CXe P w) P w K mg base N' qual scope f cd A outer s0 H0 E).env)) (fun _ s' => SP (cxOf (CXe P w) P w K mg base N' qual scope f cd A outer s0 H0 E) pins D .next s') acc C) osc hosc N hN S rfl hg ht he I2 h2 (fun cl C D H2 fp xe J hC hfp hxe => pass_block J hC hfp hxe) fun D' C H' s' mC I' nC fC q => ?_
  show wpAny _ _ (assign (.Name x px) (cxOf (CXe P w) P w K mg base N' qual scope f cd A outer s0 H0 E).env (.ref D')) _ _ s'
  refine wpAny_assign_Name (store_ok2 I' hNd hj hx (v := .ref D') rfl (fun s3 I3 ⟨a, sb, ha⟩ => ?_) hf)
  have hCa : C ≠ a := by
    rcases ha with e | e
    · rw [e]; exact fC.2.1
    · exact fun z => fC.2.2.2.2.1 x a e z.symm
  refine ⟨mC, nC.sameBut sb hCa, fun h' sb2 => ?_⟩
  obtain ⟨f0, f1, _, f3, f4, f5⟩ := fC
  exact ⟨_, H', I3.turned (t' := s3.toks) (fun b o hb e => (sb2.2 b hb).trans e) f0 f1 f3 f4 f5, q⟩
end
end L2
set_option Elab.async false
set_option linter.all false
set_option maxRecDepth 100000
set_option maxHeartbeats 4000000
namespace L2
open PySem PySem.Spec PyProof.Rows
section
variable {X : Cx} {elts : List Expr} {k : Nat} {tpos : Pos}
end
end L2
set_option Elab.async false
set_option linter.all false
set_option maxRecDepth 100000
set_option maxHeartbeats 4000000
namespace L2
open PySem PySem.Spec PyProof.Rows
abbrev Pt := Str × List Rw
end L2
set_option Elab.async false
set_option linter.all false
set_option maxRecDepth 100000
set_option maxHeartbeats 4000000
namespace L2
open PySem PySem.Spec PyProof.Rows
section
variable {κ : Type} [DecidableEq κ]
end
abbrev KT (H : Hp) : List (List Key × V) → List (List Key × Addr × Value) → Prop := Paired fun p q => p.1 = q.1 ∧ H q.2.1 = some (.tup (p.1.map kV)) ∧ RelV p.2 q.2.2
section
variable {P : Program} {w : World} {H : Hp} {h : Heap} {a : Addr}
end
section
variable {X : Cx} {pins : List (Addr × Obj)} {σ : St} {H : Hp} {s : Shared} {a : Addr} {y v : V} {u r : Value} {o : Option V} {A : Around} {E : Value → Shared → Prop}
end
section
variable {X : Cx} {pins : List (Addr × Obj)} {σ : St} {H : Hp} {s : Shared} {a : Addr} {kvs : List (Key × V)} {k : Key} {u : Value} {A : Around} {E : Value → Shared → Prop}
end
section
variable {X : Cx} {o i e value : Expr} {pos pos' tpos : Pos} {td ty tv : TE}
end
section
variable {X : Cx} {pos : Pos}
end
abbrev VV : List (V × V) → List (Value × Value) → Prop := Paired fun p q => RelV p.1 q.1 ∧ RelV p.2 q.2
section
variable {X : Cx} {pins : List (Addr × Obj)} {σ : St} {H : Hp} {s : Shared} {a : Addr} {y d : V} {u r : Value} {o : Option V} {A : Around} {E : Value → Shared → Prop}
end
section
variable {X : Cx} {o e f : Expr} {apos cpos : Pos} {td ty tx : TE}
end
section
variable {X : Cx} {pins : List (Addr × Obj)} {σ : St} {H : Hp} {s : Shared} {a : Addr} {kvs : List (Key × V)} {A : Around} {E : Value → Shared → Prop}
end
section
variable {X : Cx} {pins : List (Addr × Obj)} {σ : St} {H : Hp} {s : Shared} {a : Addr} {y : V} {u : Value} {A : Around} {E : Value → Shared → Prop}
end
end L2
namespace L2
open PySem PySem.Spec PyProof.Rows
section
variable {X : Cx}
end
section
variable {κ : Type} [DecidableEq κ]
end
end L2
set_option Elab.async false
set_option linter.all false
set_option maxRecDepth 100000
set_option maxHeartbeats 4000000
namespace L2
open PySem PySem.Spec PyProof.Rows
section
variable {X : Cx}
end
end L2
set_option Elab.async false
set_option linter.all false
set_option maxRecDepth 100000
set_option maxHeartbeats 4000000
namespace L2
open PySem PySem.Spec PyProof.Rows PySem.W
section
variable {prog : Program} {w : World} {A : Around} {E : Value → Shared → Prop} {s : Shared} {T : String} {r d : Addr} {n : Nat} {P : Nat → Value → Prop} {OK : Heap → Prop}
end
section
variable {X : Cx}
end
end L2
set_option Elab.async false
set_option linter.all false
set_option maxRecDepth 100000
set_option maxHeartbeats 4000000
namespace L2
open PySem PySem.Spec PyProof.Rows
end L2
set_option Elab.async false
set_option linter.all false
set_option maxRecDepth 100000
set_option maxHeartbeats 4000000
namespace L2
open PySem PySem.Spec PyProof.Rows
section
variable {X : Cx}
end
end L2
set_option Elab.async false
set_option linter.all false
set_option maxRecDepth 100000
set_option maxHeartbeats 4000000
namespace L2
open PySem PySem.Spec PyProof.Rows
section
variable {X : Cx}
end
end L2
set_option Elab.async false
set_option linter.all false
set_option maxRecDepth 100000
set_option maxHeartbeats 4000000
namespace L2
open PySem PySem.Spec PyProof.Rows
section
variable {X : Cx}
end
end L2
set_option Elab.async false
set_option linter.all false
set_option maxRecDepth 100000
set_option maxHeartbeats 4000000
namespace L2
open PySem PySem.Spec PyProof.Rows
section
variable {prog : Program} {w : World} {A : Around} {E : Value → Shared → Prop} {s : Shared}
end
section
variable {X : Cx}
end
end L2
set_option Elab.async false
set_option linter.all false
set_option maxRecDepth 100000
set_option maxHeartbeats 4000000
namespace L2
open PySem PySem.Spec PyProof.Rows
section
variable {X : Cx}
end
end L2
set_option Elab.async false
set_option linter.all false
set_option maxRecDepth 100000
set_option maxHeartbeats 4000000
namespace RV
open PySem PySem.Spec PyProof.Rows
end RV
set_option Elab.async false
set_option linter.all false
set_option maxRecDepth 100000
set_option maxHeartbeats 4000000
namespace RV
open PySem PySem.Spec PyProof.Rows
section
variable {prog : Program} {w : World} {A : Around} {E : Value → Shared → Prop} {s : Shared}
end
end RV
set_option Elab.async false
set_option linter.all false
set_option maxRecDepth 100000
set_option maxHeartbeats 4000000
namespace RV
open PySem PySem.Spec PyProof.Rows
section
variable {prog : Program} {w : World} {A : Around} {E : Value → Shared → Prop} {s : Shared}
end
end RV
set_option Elab.async false
set_option linter.all false
set_option maxRecDepth 100000
set_option maxHeartbeats 4000000
namespace RV
open PySem PySem.Spec PyProof.Rows
section
variable {prog : Program} {w : World} {A : Around} {E : Value → Shared → Prop} {s : Shared}
end
end RV
set_option Elab.async false
set_option linter.all false
set_option maxRecDepth 100000
set_option maxHeartbeats 4000000
namespace L2
open PySem PySem.Spec PyProof.Rows PySem.W RV
section
variable {X : Cx} {e : Expr} {te : TE} {pos pos2 p p2 : Pos}
end
end L2
set_option Elab.async false
set_option linter.all false
set_option maxRecDepth 100000
set_option maxHeartbeats 4000000
namespace L2
open PySem PySem.Spec PyProof.Rows
section
variable {X : Cx}
end
end L2
set_option Elab.async false
set_option linter.all false
set_option maxRecDepth 100000
set_option maxHeartbeats 4000000
namespace L2
open PySem PySem.Spec PyProof.Rows
section
variable {X : Cx} {elts : List Expr} {k : Nat} {tpos : Pos}
end
end L2
set_option Elab.async false
set_option linter.all false
set_option maxRecDepth 100000
set_option maxHeartbeats 4000000
namespace L2
open PySem PySem.Spec PyProof.Rows
section
variable {P : Program} {w : World} {A : Around} {E : Value → Shared → Prop} {s : Shared} {z TI TO i1 i2 l1 l2 : Addr} {xs ys : Array Value} {I1 I2 : Nat → Heap → Prop} {S1 S2 : Heap → Prop}
end
section
variable {X : Cx} {elts : List Expr} {k : Nat} {tpos : Pos}
end
end L2
set_option Elab.async false
set_option linter.all false
set_option maxRecDepth 100000
set_option maxHeartbeats 4000000
namespace L2
open PySem PySem.Spec PyProof.Rows PySem.W
section
variable {P : Program} {w : World} {A : Around} {E : Value → Shared → Prop} {s : Shared} {d : Addr} {es : Array DictEntry} {ep : Nat}
end
section
variable {X : Cx}
end
end L2
set_option Elab.async false
set_option linter.all false
set_option maxRecDepth 100000
set_option maxHeartbeats 4000000
namespace L2
open PySem PySem.Spec PyProof.Rows
section
variable {X : Cx}
theorem op_neL_same (hu : X.A.units < cLine) : OpR X (compareOp .NotEq) (fun x y H Q => ∃ a b xs, x = .ref a ∧ y = .ref b ∧ SqL X.K H a xs ∧ SqL X.K H b xs ∧ xs.all flatV = true ∧ Q (.bl false) H) := by
  intro pins s σ H x y v u Q I rx ry h
  obtain ⟨a, b, xs, rfl, rfl, ha, hb, hf, q⟩ := h
  cases rx
  cases ry
  obtain ⟨its, r1, p1, _⟩ := I.list ha
  obtain ⟨its2, r2, p2, _⟩ := I.list hb
  have l1 := r1.length
  have l2 := r2.length
  refine SeqAt.RcNeAt.lists (e := fun _ => true) p1.isList p2.isList (by simp; omega) hu (same_items r1 r2 hf) X.prog X.w _ _ ?_
  rw [show (!((List.range its.toArray.size).all (fun _ => true))) = false by simp]
  exact ⟨.bl false, H, I, rfl, q⟩
end
end L2
set_option Elab.async false
set_option linter.all false
set_option maxRecDepth 100000
set_option maxHeartbeats 4000000
namespace RG
open PySem PySem.Spec PyProof.Rows
section
variable {prog : Program} {w : World} {A : Around} {E : Value → Shared → Prop} {s : Shared}
variable {I : Addr} {fp : List Addr} {n : Nat} {P : Nat → Value → Prop} {St : Nat → Heap → Prop} {T : String}
end
end RG
set_option Elab.async false
set_option linter.all false
set_option maxRecDepth 100000
set_option maxHeartbeats 4000000
namespace RG
open PySem PySem.Spec PyProof.Rows
section
variable {prog : Program} {w : World} {A : Around} {E : Value → Shared → Prop} {s : Shared}
end
end RG
namespace L2
open PySem PySem.Spec PyProof.Rows PySem.W RG
section
variable {X : Cx} {e : Expr} {te : TE} {pos pos2 pos3 p p2 p3 : Pos}
end
end L2
set_option Elab.async false
set_option linter.all false
set_option maxRecDepth 100000
set_option maxHeartbeats 4000000
namespace L2
open PySem PySem.Spec PyProof.Rows PySem.W RG
open AutoSeq1 (wpAny_loadPart')
section
variable {prog : Program} {w : World} {A : Around} {E : Value → Shared → Prop} {s : Shared}
end
section
variable {X : Cx} {e : Expr} {te : TE} {pos pos3 p p3 : Pos}
end
end L2
set_option Elab.async false
set_option linter.all false
set_option maxRecDepth 100000
set_option maxHeartbeats 4000000
namespace L2
open PySem PySem.Spec PyProof.Rows PySem.W
section
variable {X : Cx} {e : Expr} {te : TE} {pos pos3 p p3 : Pos}
end
end L2
set_option Elab.async false
set_option linter.all false
set_option maxRecDepth 100000
set_option maxHeartbeats 4000000
namespace L2
open PySem PySem.Spec PyProof.Rows PySem.W
section
variable {prog : Program} {w : World} {A : Around} {R : Result → Shared → Prop} {it best : Addr} {fp wr : List Addr} {n : Nat} {P : Nat → Value → Prop} {St : Nat → Heap → Prop}
end
section
variable {X : Cx}
end
end L2
set_option Elab.async false
set_option linter.all false
set_option maxRecDepth 100000
set_option maxHeartbeats 4000000
namespace L2
open PySem PySem.Spec PyProof.Rows
section
variable {X : Cx}
end
end L2
set_option Elab.async false
set_option linter.all false
set_option maxRecDepth 100000
set_option maxHeartbeats 4000000
namespace L2
open PySem PySem.Spec PyProof.Rows
def EqD (K : PySem.W.Frag) (H : Hp) : Nat → V → V → Prop
  | 0, x, y => x = y ∧ flatV x = true
  | n + 1, x, y => (x = y ∧ flatV x = true) ∨ ∃ a b xs ys, x = .ref a ∧ y = .ref b ∧ SqT K H a xs ∧ SqT K H b ys ∧ Paired (EqD K H n) xs ys
theorem val_at {xs : List V} {its : List Value} (r : Vals xs its) {j : Nat} {x : V} (h : xs[j]? = some x) (hj : j < its.toArray.size) : RelV x its.toArray[j] := by
  obtain ⟨w1, g1, rw1⟩ := r.get h
  have : its[j]? = some its.toArray[j] := by simp at hj; simp [hj]
  rw [g1] at this
  rw [← Option.some.inj this]
  exact rw1
theorem eqD_items {X : Cx} {pins : List (Addr × Obj)} {s : Shared} {σ : St} {H : Hp} {A : Around} {n : Nat} {xs ys : List V} {js js2 : List Value} (hP : Paired (EqD X.K H n) xs ys) (q1 : Vals xs js) (q2 : Vals ys js2)
    (ih : ∀ x y v u, EqD X.K H n x y → RelV x v → RelV y u → SeqAt.EqAt A s v u true) : ∀ j (j1 : j < js.toArray.size) (j2 : j < js2.toArray.size), SeqAt.EqAt A s js.toArray[j] js2.toArray[j] true := by
  intro j j1 j2
  have m1 := q1.length
  have m2 := q2.length
  have k1 : j < xs.length := by simp at j1; omega
  obtain ⟨y, hy, hd⟩ := Paired.get? hP (List.getElem?_eq_getElem k1)
  exact ih _ _ _ _ hd (val_at q1 (List.getElem?_eq_getElem k1) j1) (val_at q2 hy j2)
theorem eqD_at {X : Cx} {pins : List (Addr × Obj)} {s : Shared} {σ : St} {H : Hp} (I : Inv X pins σ H s) : ∀ (n : Nat) (A : Around), A.units + n < cLine → ∀ x y v u, EqD X.K H n x y → RelV x v → RelV y u → SeqAt.EqAt A s v u true
  | 0, A, hu, x, y, v, u, h, rx, ry => by
    obtain ⟨rfl, f⟩ := h
    have := eqAt_V (A := A) (s := s) rx ry f f
    rw [eqV_refl f] at this
    exact this
  | n + 1, A, hu, x, y, v, u, h, rx, ry => by
    rcases h with ⟨rfl, f⟩ | ⟨a, b, xs, ys, rfl, rfl, ha, hb, hP⟩
    · have := eqAt_V (A := A) (s := s) rx ry f f
      rw [eqV_refl f] at this
      exact this
    · cases rx
      cases ry
      by_cases e : a = b
      · subst e
        exact SeqAt.EqAt.same _
      · obtain ⟨js, q1, pt1, _⟩ := I.tuple ha
        obtain ⟨js2, q2, pt2, _⟩ := I.tuple hb
        have m1 := q1.length
        have m2 := q2.length
        have hl := Paired.length hP
        have R := SeqAt.RcAt.tuples (A := A) (e := fun _ => true) (show s.heap.IsTuple a js.toArray from pt1) (show s.heap.IsTuple b js2.toArray from pt2) (by omega) (eqD_items (X := X) (pins := pins) (σ := σ) hP q1 q2 (eqD_at I n A.in1 (by show A.units + 1 + n < cLine; omega)))
        have e2 : ((List.range (min js.toArray.size js2.toArray.size)).all (fun _ => true) && js.toArray.size == js2.toArray.size) = true := by
          have : js.toArray.size = js2.toArray.size := by simp; omega
          simp [this]
        rw [e2] at R
        exact SeqAt.EqAt.of_refs e R
end L2
set_option Elab.async false
set_option linter.all false
set_option maxRecDepth 100000
set_option maxHeartbeats 4000000
namespace L2
open PySem PySem.Spec PyProof.Rows PySem.W
section
variable {X : Cx} {pins : List (Addr × Obj)} {σ : List (Option V)} {H : Hp} {s : Shared}
end
section
variable {X : Cx} {tg : Expr}
end
end L2
set_option Elab.async false
set_option linter.all false
set_option maxRecDepth 100000
set_option maxHeartbeats 4000000
namespace L2
open PySem PySem.Spec PyProof.Rows
section
variable {X : Cx}
end
end L2
set_option Elab.async false
set_option linter.all false
set_option maxRecDepth 100000
set_option maxHeartbeats 4000000
namespace L2
open PySem PySem.Spec PyProof.Rows
section
variable {X : Cx}
end
end L2
set_option Elab.async false
set_option linter.all false
set_option maxRecDepth 100000
set_option maxHeartbeats 4000000
namespace L2
open PySem PySem.Spec PyProof.Rows
section
variable {P : Program} {w : World} {K : PySem.W.Frag} {mg : Str → Option Value} {base : Heap}
end
section
variable {X : Cx} {j k : Nat} {C : Addr} {x m : Str} {ps : List Str} {sp : Sp} {o e : Expr} {es : List Expr} {ta : TE} {t : TA} {p pos apos : Pos}
end
end L2
set_option Elab.async false
set_option linter.all false
set_option maxRecDepth 100000
set_option maxHeartbeats 4000000
namespace L2
open PySem PySem.Spec PyProof.Rows PySem.W RV
end L2
set_option Elab.async false
set_option linter.all false
set_option maxRecDepth 100000
set_option maxHeartbeats 4000000
namespace L2
open PySem PySem.Spec PyProof.Rows
section
variable {A : GA} {tk : Int} {ft : V} {rd md : Addr}
end
abbrev Wx := Str × Nat × Rw
abbrev Dd := Str × Int × Str × Nat
abbrev Ft := Str × Str × Nat × Int
section
variable {CP CG : Addr} {H : Hp} {g : Addr} {A : GA} {N : Nt} {ns : List Int} {S : GS}
end
end L2
set_option Elab.async false
set_option linter.all false
set_option maxRecDepth 100000
set_option maxHeartbeats 4000000
namespace L2
open PySem PySem.Spec PyProof.Rows
end L2
set_option Elab.async false
set_option linter.all false
set_option maxRecDepth 100000
set_option maxHeartbeats 2000000
namespace L2
open PySem PySem.Spec PyProof.Rows
section
variable {X : Cx}
theorem rep_list (a : Array Nat) : ∀ (n : Nat) (acc : Array Nat), ((List.replicate n a).foldl (· ++ ·) acc).toList = acc.toList ++ (List.replicate n a.toList).flatten
  | 0, acc => by simp
  | n + 1, acc => by
    rw [List.replicate_succ, List.foldl_cons, rep_list a n (acc ++ a), List.replicate_succ, List.flatten_cons, Array.toList_append, List.append_assoc]
theorem op_repS : OpR X (binaryOp .Mult) (fun x y H Q => ∃ (z : Str) (k : Int), x = .str z ∧ y = .int k ∧ 0 ≤ k ∧ k ≤ 1000 ∧ z.length ≤ 1000 ∧ ∀ r : Str, r.length ≤ z.length * k.toNat → (∀ c ∈ r.cps.toList, c ∈ z.cps.toList) → Q (.str r) H) := by
  intro pins s σ H x y v u Q I rx ry h
  obtain ⟨z, k, rfl, rfl, h1, h2, hz, q⟩ := h
  obtain ⟨t, rfl⟩ := rx
  obtain ⟨t', rfl⟩ := ry
  have hm : z.length * k.toNat ≤ 1000 * 1000 := Nat.mul_le_mul hz (by omega)
  refine PySem.P.mul_str (by rw [decide_eq_false (by omega), decide_eq_false (by omega)]; rfl) (fun h0 _ => ?_) (fun _ _ => ?_) ?_
  · have : (2 ^ 63 - 1) / k ≥ 1000 := by
      rw [ge_iff_le, Int.le_ediv_iff_mul_le (by omega)]; omega
    omega
  · unfold Builtin.Str.tooLong
    have : sizeLine = 16777216 := sizeLine_eq
    simp; omega
  · by_cases e0 : k < 1
    · rw [if_pos e0]
      have e1 : (Str.empty).cps.toList = [] := by decide +kernel
      exact ⟨Nat.zero_le _, .str Str.empty, H, I.tok _, ⟨_, rfl⟩, q Str.empty (Nat.zero_le _) (fun c hc => by rw [e1] at hc; cases hc)⟩
    · rw [if_neg e0]
      by_cases e : (k == 1 || z.length == 0) = true
      · rw [if_pos e]
        refine ⟨.str z, H, I, ⟨t, rfl⟩, q _ ?_ fun c hc => hc⟩
        exact Nat.le_mul_of_pos_right _ (by omega)
      · rw [if_neg e]
        have hr := rep_list z.cps k.toNat #[]
        have hrl : (⟨(List.replicate k.toNat z.cps).foldl (· ++ ·) #[]⟩ : Str).length = z.length * k.toNat := by
          show ((List.replicate k.toNat z.cps).foldl (· ++ ·) #[]).size = _
          rw [← Array.length_toList, hr]
          simp [Str.length, Nat.mul_comm]
        refine ⟨by rw [hrl]; have := sizeLine_eq; omega, .str _, H, I.tok _, ⟨_, rfl⟩, q _ (by rw [hrl]; exact Nat.le_refl _) (fun c hc => ?_)⟩
        have hc : c ∈ ((List.replicate k.toNat z.cps).foldl (· ++ ·) #[]).toList := hc
        rw [hr] at hc
        have hc : c ∈ (List.replicate k.toNat z.cps.toList).flatten := hc
        obtain ⟨l', hl', hc'⟩ := List.mem_flatten.mp hc
        rw [(List.mem_replicate.mp hl').2] at hc'
        exact hc'
theorem op_eqLD (n : Nat) (hu : X.A.units + 1 + n < cLine) : OpR X (compareOp .Eq) (fun x y H Q => ∃ a b xs ys, x = .ref a ∧ y = .ref b ∧ SqL X.K H a xs ∧ SqL X.K H b ys ∧ Paired (EqD X.K H n) xs ys ∧ Q (.bl true) H) := by
  intro pins s σ H x y v u Q I rx ry h
  obtain ⟨a, b, xs, ys, rfl, rfl, ha, hb, hP, q⟩ := h
  cases rx
  cases ry
  obtain ⟨its, r1, p1, _⟩ := I.list ha
  obtain ⟨its2, r2, p2, _⟩ := I.list hb
  have hl1 := r1.length
  have hl2 := r2.length
  have hl := Paired.length hP
  refine SeqAt.eq_listAt (e := fun _ => true) p1.isList p2.isList (by simp; omega) (by omega) (eqD_items (X := X) (pins := pins) (σ := σ) hP r1 r2 (eqD_at I n X.A.in1 hu)) ?_
  rw [show ((List.range its.toArray.size).all (fun _ => true)) = true by simp]
  exact ⟨.bl true, H, I, rfl, q⟩
end
end L2
set_option Elab.async false
set_option linter.all false
set_option maxRecDepth 100000
set_option maxHeartbeats 1000000
namespace K05
open PySem L2 PyProof.Rows
def top (i : Nat) : Stmt := PySem.Challenge.pw_bundlehouse_k05_whole_read_as_written.main.body.getD i (.Pass ⟨0, 0, 0, 0⟩)
abbrev s_NoRow___init__ : Stmt := inClass (top 2) 0
theorem sc_NoRow___init__ : FnScope ["self", "number"] ["self", "number"] (defScope s_NoRow___init__) := ⟨rfl, rfl, rfl, by decide +kernel, rfl, by decide +kernel, by decide +kernel⟩
abbrev s_shown_row : Stmt := top 10
theorem sc_shown_row : FnScope ["row"] ["row"] (defScope s_shown_row) := ⟨rfl, rfl, rfl, by decide +kernel, rfl, by decide +kernel, by decide +kernel⟩
abbrev s_words_of : Stmt := top 11
theorem sc_words_of : FnScope ["row", "kind"] ["row"] (defScope s_words_of) := ⟨rfl, rfl, rfl, by decide +kernel, rfl, by decide +kernel, by decide +kernel⟩
abbrev s_pair_words : Stmt := top 12
theorem sc_pair_words : FnScope ["pairs", "words", "given", "own"] ["pairs"] (defScope s_pair_words) := ⟨rfl, rfl, rfl, by decide +kernel, rfl, by decide +kernel, by decide +kernel⟩
abbrev s_sum_words : Stmt := top 13
theorem sc_sum_words : FnScope ["terms", "words", "sign", "thing"] ["terms"] (defScope s_sum_words) := ⟨rfl, rfl, rfl, by decide +kernel, rfl, by decide +kernel, by decide +kernel⟩
abbrev s_when_words : Stmt := top 14
theorem sc_when_words : FnScope ["when"] ["when"] (defScope s_when_words) := ⟨rfl, rfl, rfl, by decide +kernel, rfl, by decide +kernel, by decide +kernel⟩
abbrev s_read_row : Stmt := top 15
theorem sc_read_row : FnScope ["text", "words", "kind", "rest"] ["text"] (defScope s_read_row) := ⟨rfl, rfl, rfl, by decide +kernel, rfl, by decide +kernel, by decide +kernel⟩
abbrev s_read_bring : Stmt := top 16
theorem sc_read_bring : FnScope ["words", "pairs"] ["words"] (defScope s_read_bring) := ⟨rfl, rfl, rfl, by decide +kernel, rfl, by decide +kernel, by decide +kernel⟩
abbrev s_read_pair : Stmt := top 17
theorem sc_read_pair : FnScope ["words"] ["words"] (defScope s_read_pair) := ⟨rfl, rfl, rfl, by decide +kernel, rfl, by decide +kernel, by decide +kernel⟩
abbrev s_read_set : Stmt := top 18
theorem sc_read_set : FnScope ["words"] ["words"] (defScope s_read_set) := ⟨rfl, rfl, rfl, by decide +kernel, rfl, by decide +kernel, by decide +kernel⟩
abbrev s_read_say : Stmt := top 19
theorem sc_read_say : FnScope ["words"] ["words"] (defScope s_read_say) := ⟨rfl, rfl, rfl, by decide +kernel, rfl, by decide +kernel, by decide +kernel⟩
abbrev s_read_ask : Stmt := top 20
theorem sc_read_ask : FnScope ["words"] ["words"] (defScope s_read_ask) := ⟨rfl, rfl, rfl, by decide +kernel, rfl, by decide +kernel, by decide +kernel⟩
abbrev s_has_when : Stmt := top 21
theorem sc_has_when : FnScope ["words"] ["words"] (defScope s_has_when) := ⟨rfl, rfl, rfl, by decide +kernel, rfl, by decide +kernel, by decide +kernel⟩
abbrev s_read_sum : Stmt := top 22
theorem sc_read_sum : FnScope ["words", "terms", "k"] ["words"] (defScope s_read_sum) := ⟨rfl, rfl, rfl, by decide +kernel, rfl, by decide +kernel, by decide +kernel⟩
abbrev s_read_sign : Stmt := top 23
theorem sc_read_sign : FnScope ["word"] ["word"] (defScope s_read_sign) := ⟨rfl, rfl, rfl, by decide +kernel, rfl, by decide +kernel, by decide +kernel⟩
abbrev s_read_thing : Stmt := top 24
theorem sc_read_thing : FnScope ["word"] ["word"] (defScope s_read_thing) := ⟨rfl, rfl, rfl, by decide +kernel, rfl, by decide +kernel, by decide +kernel⟩
abbrev s_read_only_name : Stmt := top 25
theorem sc_read_only_name : FnScope ["words"] ["words"] (defScope s_read_only_name) := ⟨rfl, rfl, rfl, by decide +kernel, rfl, by decide +kernel, by decide +kernel⟩
abbrev s_read_name : Stmt := top 26
theorem sc_read_name : FnScope ["word"] ["word"] (defScope s_read_name) := ⟨rfl, rfl, rfl, by decide +kernel, rfl, by decide +kernel, by decide +kernel⟩
abbrev s_is_name : Stmt := top 27
theorem sc_is_name : FnScope ["word"] ["word"] (defScope s_is_name) := ⟨rfl, rfl, rfl, by decide +kernel, rfl, by decide +kernel, by decide +kernel⟩
abbrev s_is_number : Stmt := top 28
theorem sc_is_number : FnScope ["word"] ["word"] (defScope s_is_number) := ⟨rfl, rfl, rfl, by decide +kernel, rfl, by decide +kernel, by decide +kernel⟩
abbrev s_law_stream : Stmt := top 30
theorem sc_law_stream : FnScope ["_law_cell", "_law_many", "_law_found", "_law_number", "_law_k"] ["_law_cell", "_law_many"] (defScope s_law_stream) := ⟨rfl, rfl, rfl, by decide +kernel, rfl, by decide +kernel, by decide +kernel⟩
abbrev s_law_word : Stmt := top 31
theorem sc_law_word : FnScope ["_law_number", "_law_some", "_law_name", "_law_rest"] ["_law_number"] (defScope s_law_word) := ⟨rfl, rfl, rfl, by decide +kernel, rfl, by decide +kernel, by decide +kernel⟩
abbrev s_law_begun : Stmt := top 32
theorem sc_law_begun : FnScope ["_law_number", "_law_some"] ["_law_number"] (defScope s_law_begun) := ⟨rfl, rfl, rfl, by decide +kernel, rfl, by decide +kernel, by decide +kernel⟩
abbrev s_law_words : Stmt := top 33
theorem sc_law_words : FnScope ["_law_cell", "_law_numbers", "_law_words_here", "_law_k", "_law_way", "_law_at", "_law_word_here"] ["_law_cell"] (defScope s_law_words) := ⟨rfl, rfl, rfl, by decide +kernel, rfl, by decide +kernel, by decide +kernel⟩
abbrev s_law_read : Stmt := top 34
theorem sc_law_read : FnScope ["_law_text", "_law_row"] ["_law_text"] (defScope s_law_read) := ⟨rfl, rfl, rfl, by decide +kernel, rfl, by decide +kernel, by decide +kernel⟩
abbrev s_law_right : Stmt := top 35
theorem sc_law_right : FnScope ["_law_words_here", "_law_text", "_law_found", "_law_told"] ["_law_words_here"] (defScope s_law_right) := ⟨rfl, rfl, rfl, by decide +kernel, rfl, by decide +kernel, by decide +kernel⟩
abbrev s_law : Stmt := top 36
theorem sc_law : FnScope ["_law_script", "_law_cell"] ["_law_script"] (defScope s_law) := ⟨rfl, rfl, rfl, by decide +kernel, rfl, by decide +kernel, by decide +kernel⟩
structure Adr where
  BundleError : Addr
  NoRow : Addr
structure XTxt (K : PySem.W.Frag) (mg : Str → Option Value) (A : Adr) : Prop where
  m_BundleError : mg "BundleError" = some (.ref A.BundleError)
  m_NoRow : mg "NoRow" = some (.ref A.NoRow)
  k_BundleError : XK1 K A.BundleError
  k_NoRow : XK1 K A.NoRow
  s_NoRow : PySem.W.mroIn K A.NoRow (.ref A.NoRow) = some true
  x_NoRow : HasX K A.NoRow "NoRow.__init__" s_NoRow___init__
  f_NoRow : XF K A.NoRow "number"
  b_BundleError : XB K A.BundleError
structure Txt (K : PySem.W.Frag) (mg : Str → Option Value) : Prop where
  n_len : mg "len" = none
  n_range : mg "range" = none
  n_str : mg "str" = none
  n_int : mg "int" = none
  n_bool : mg "bool" = none
  n_tuple : mg "tuple" = none
  n_isinstance : mg "isinstance" = none
  n_all : mg "all" = none
  n_list : mg "list" = none
  g_LETTERS : ∃ u, mg "LETTERS" = some u ∧ RelV (.str "abcdefghijklmnopqrstuvwxyz") u
  g_FIGURES : ∃ u, mg "FIGURES" = some u ∧ RelV (.str "0123456789") u
  g_MOST_SIGNS : ∃ u, mg "MOST_SIGNS" = some u ∧ RelV (.int 8) u
  g_MOST_FIGURES : ∃ u, mg "MOST_FIGURES" = some u ∧ RelV (.int 60) u
  g_MOST_TERMS : ∃ u, mg "MOST_TERMS" = some u ∧ RelV (.int 6) u
  g_MOST_PAIRS : ∃ u, mg "MOST_PAIRS" = some u ∧ RelV (.int 6) u
  d_shown_row : HasDef K mg "shown_row" s_shown_row
  d_words_of : HasDef K mg "words_of" s_words_of
  d_pair_words : HasDef K mg "pair_words" s_pair_words
  d_sum_words : HasDef K mg "sum_words" s_sum_words
  d_when_words : HasDef K mg "when_words" s_when_words
  d_read_row : HasDef K mg "read_row" s_read_row
  d_read_bring : HasDef K mg "read_bring" s_read_bring
  d_read_pair : HasDef K mg "read_pair" s_read_pair
  d_read_set : HasDef K mg "read_set" s_read_set
  d_read_say : HasDef K mg "read_say" s_read_say
  d_read_ask : HasDef K mg "read_ask" s_read_ask
  d_has_when : HasDef K mg "has_when" s_has_when
  d_read_sum : HasDef K mg "read_sum" s_read_sum
  d_read_sign : HasDef K mg "read_sign" s_read_sign
  d_read_thing : HasDef K mg "read_thing" s_read_thing
  d_read_only_name : HasDef K mg "read_only_name" s_read_only_name
  d_read_name : HasDef K mg "read_name" s_read_name
  d_is_name : HasDef K mg "is_name" s_is_name
  d_is_number : HasDef K mg "is_number" s_is_number
  d_law_stream : HasDef K mg "_law_stream" s_law_stream
  d_law_word : HasDef K mg "_law_word" s_law_word
  d_law_begun : HasDef K mg "_law_begun" s_law_begun
  d_law_words : HasDef K mg "_law_words" s_law_words
  d_law_read : HasDef K mg "_law_read" s_law_read
  d_law_right : HasDef K mg "_law_right" s_law_right
  xs : ∃ A : Adr, XTxt K mg A
theorem pe_globS {X : Cx} {x : Str} {v : V} {pos : Pos} (h : ∃ u, X.mg x = some u ∧ RelV v u) (hg : Gl X x) (hd : (x == ("__debug__" : Str)) = false := by decide) : PE X (.Name x pos) (tC v) := by
  obtain ⟨u, hm, r⟩ := h
  exact pe_glob hg hm r hd
def spIsName : Sp := fun vs H Q _ => ∃ x : Str, vs = [.str x] ∧ x.length ≤ 100000 ∧ ∀ H' : Hp, Same H H' → Q (.bl (isNm x.cps.toList)) H'
def spIsNumber : Sp := fun vs H Q _ => ∃ x : Str, vs = [.str x] ∧ x.length ≤ 100000 ∧ ∀ H' : Hp, Same H H' → Q (.bl (isNumL x.cps.toList)) H'
def spReadName : Sp := fun vs H Q _ => ∃ x : Str, vs = [.str x] ∧ NameOk x ∧ ∀ H' : Hp, Same H H' → Q (.str x) H'
def spReadThing : Sp := fun vs H Q _ => ∃ t : Th, vs = [.str (thS t)] ∧ ThOk t ∧ ∀ H' : Hp, Same H H' → Q (thV t) H'
def spReadSign : Sp := fun vs H Q _ => ∃ s : Int, vs = [.str (sgS s)] ∧ (s = 1 ∨ s = -1) ∧ Q (.int s) H
def spReadOnly : Sp := fun vs H Q _ => ∃ (l : Addr) (x : Str), vs = [.ref l] ∧ H l = some (.lst [.str x]) ∧ NameOk x ∧ ∀ H' : Hp, Same H H' → Q (.str x) H'
def spReadPair : Sp := fun vs H Q _ => ∃ (l : Addr) (g o : Str), vs = [.ref l] ∧ H l = some (.lst [.str g, .str "as", .str o]) ∧ NameOk g ∧ NameOk o ∧ ∀ (p : Addr) (H' : Hp), Same H H' → H' p = some (.tup [.str g, .str o]) → Q (.ref p) H'
def spHasWhen : Sp := fun vs H Q _ => ∃ (l : Addr) (ws : List Str), vs = [.ref l] ∧ H l = some (.lst (ws.map V.str)) ∧ ((∃ (us : List Str) (w : Str), ws = us ++ [("when" : Str), w] ∧ us ≠ [] ∧ Q (.bl true) H) ∨ (ws.length ≤ 2 ∧ Q (.bl false) H) ∨ (∃ (us : List Str) (a b : Str), ws = us ++ [a, b] ∧ us ≠ [] ∧ a ≠ "when" ∧ Q (.bl false) H))
def spReadSum : Sp := fun vs H Q _ => ∃ (l : Addr) (ts : List (Int × Th)), vs = [.ref l] ∧ H l = some (.lst ((sumW ts).map V.str)) ∧ SumOk ts ∧ ∀ (t : Addr) (H' : Hp), Same H H' → TermsAt H' t ts → Q (.ref t) H'
def RowR (H : Hp) (rw : Rw) (Q : VK) : Prop := ∀ (r : Addr) (H' : Hp), Same H H' → RowAt H' r rw → Q (.ref r) H'
def spReadSet : Sp := fun vs H Q _ => ∃ (l : Addr) (o : Str) (ts : List (Int × Th)), vs = [.ref l] ∧ H l = some (.lst ((o :: "=" :: sumW ts).map V.str)) ∧ RwOk (.set o ts) ∧ RowR H (.set o ts) Q
def spReadSay : Sp := fun vs H Q _ => ∃ (l : Addr) (ts : List (Int × Th)) (w : Option Str), vs = [.ref l] ∧ H l = some (.lst ((sumW ts ++ whenW w).map V.str)) ∧ RwOk (.say ts w) ∧ RowR H (.say ts w) Q
def spReadAsk : Sp := fun vs H Q _ => ∃ (l : Addr) (p : Str) (w : Option Str), vs = [.ref l] ∧ H l = some (.lst ((p :: whenW w).map V.str)) ∧ RwOk (.ask p w) ∧ RowR H (.ask p w) Q
def spReadBring : Sp := fun vs H Q _ => ∃ (l : Addr) (p : Str) (ps : List (Str × Str)), vs = [.ref l] ∧ H l = some (.lst ((p :: pairW ps).map V.str)) ∧ RwOk (.bring p ps) ∧ RowR H (.bring p ps) Q
def spReadRow : Sp := fun vs H Q _ => ∃ rw : Rw, vs = [.str (Str.join " " (rowW rw))] ∧ RwOk rw ∧ RowR H rw Q
theorem cps_app (a b : Str) : (a ++ b).cps.toList = a.cps.toList ++ b.cps.toList := by
  show (a.cps ++ b.cps).toList = _
  simp
structure WordsOk (ws : List Str) : Prop where
  ok : ∀ x ∈ ws, WordOk x
  lo : 1 ≤ ws.length
  hi : ws.length ≤ 20
theorem wordsOk_cons {x : Str} {ws : List Str} (h : WordOk x) (hw : ∀ y ∈ ws, WordOk y) : ∀ y ∈ x :: ws, WordOk y := fun y hy => by
  rcases List.mem_cons.mp hy with z | z
  · rw [z]; exact h
  · exact hw y z
theorem wordsOk_app {vs ws : List Str} (h : ∀ y ∈ vs, WordOk y) (hw : ∀ y ∈ ws, WordOk y) : ∀ y ∈ vs ++ ws, WordOk y := fun y hy => by
  rcases List.mem_append.mp hy with z | z
  · exact h y z
  · exact hw y z
theorem wordsOk_nil : ∀ y ∈ ([] : List Str), WordOk y := fun y hy => by simp at hy
theorem TermsAt.words {H : Hp} {t : Addr} {ts : List (Int × Th)} (h : TermsAt H t ts) : (∀ x ∈ sumW ts, WordOk x) ∧ (sumW ts).length + 1 = 2 * ts.length := by
  obtain ⟨⟨vs, _, h2⟩, lo, hi⟩ := h
  exact ⟨sumW_ok (Terms.ok h2), sumW_len lo⟩
inductive RowW (H : Hp) (r : Addr) : List Str → Prop
  | bring {part : Str} {t : Addr} {ps : List (Str × Str)} (h : H r = some (.tup [.str "bring", .str part, .ref t])) (hp : PairsAt H t ps) (n : NameOk part) : RowW H r ("bring" :: part :: pairW ps)
  | give {own part : Str} (h : H r = some (.tup [.str "give", .str own, .str part])) (n : NameOk own) (m : NameOk part) : RowW H r ["give", own, "as", part]
  | set {own : Str} {t : Addr} {ts : List (Int × Th)} (h : H r = some (.tup [.str "set", .str own, .ref t])) (ht : TermsAt H t ts) (n : NameOk own) : RowW H r ("set" :: own :: "=" :: sumW ts)
  | say {t : Addr} {ts : List (Int × Th)} {o : Option Str} (h : H r = some (.tup [.str "say", .ref t, optV o])) (ht : TermsAt H t ts) (n : OptOk o) : RowW H r ("say" :: (sumW ts ++ whenW o))
  | need {t : Addr} {ts : List (Int × Th)} (h : H r = some (.tup [.str "need", .ref t])) (ht : TermsAt H t ts) : RowW H r ("need" :: sumW ts)
  | ask {part : Str} {o : Option Str} (h : H r = some (.tup [.str "ask", .str part, optV o])) (m : NameOk part) (n : OptOk o) : RowW H r ("ask" :: part :: whenW o)
  | two {k x : Str} (h : H r = some (.tup [.str k, .str x])) (hk : k ∈ (["take", "part", "do"] : List Str)) (n : NameOk x) : RowW H r [k, x]
theorem RowW.ok {H : Hp} {r : Addr} {ws : List Str} (h : RowW H r ws) : WordsOk ws := by
  cases h with
  | bring h hp n =>
    obtain ⟨⟨vs, _, h2⟩, hi⟩ := hp
    refine ⟨wordsOk_cons (by decide +kernel) (wordsOk_cons n.word (pairW_ok (Pairs.ok h2))), by simp, ?_⟩
    simp only [List.length_cons, pairW_len]; omega
  | give h n m => exact ⟨wordsOk_cons (by decide +kernel) (wordsOk_cons n.word (wordsOk_cons (by decide +kernel) (wordsOk_cons m.word wordsOk_nil))), by simp, by simp⟩
  | set h ht n =>
    obtain ⟨w1, w2⟩ := TermsAt.words ht
    have := ht.hi
    exact ⟨wordsOk_cons (by decide +kernel) (wordsOk_cons n.word (wordsOk_cons (by decide +kernel) w1)), by simp, by simp only [List.length_cons]; omega⟩
  | @say t ts o h ht n =>
    obtain ⟨w1, w2⟩ := TermsAt.words ht
    have := ht.hi
    have := whenW_len o
    exact ⟨wordsOk_cons (by decide +kernel) (wordsOk_app w1 (whenW_ok n)), by simp, by simp only [List.length_cons, List.length_append]; omega⟩
  | need h ht =>
    obtain ⟨w1, w2⟩ := TermsAt.words ht
    have := ht.hi
    exact ⟨wordsOk_cons (by decide +kernel) w1, by simp, by simp only [List.length_cons]; omega⟩
  | @ask part o h m n =>
    have := whenW_len o
    exact ⟨wordsOk_cons (by decide +kernel) (wordsOk_cons m.word (whenW_ok n)), by simp, by simp only [List.length_cons]; omega⟩
  | two h hk n =>
    refine ⟨wordsOk_cons ?_ (wordsOk_cons n.word wordsOk_nil), by simp, by simp⟩
    exact (show ∀ k ∈ (["take", "part", "do"] : List Str), WordOk k by decide +kernel) _ hk
theorem weight_ok {ws : List Str} (h : WordsOk ws) : (ws.map (·.length)).sum ≤ 61 * ws.length := by
  have : ∀ l : List Str, (∀ x ∈ l, WordOk x) → (l.map (·.length)).sum ≤ 61 * l.length := by
    intro l
    induction l with
    | nil => intro _; simp
    | cons x r ih =>
      intro hx
      have h1 := (hx x List.mem_cons_self).len
      have h2 := ih fun y hy => hx y (List.mem_cons_of_mem _ hy)
      simp only [List.map_cons, List.sum_cons, List.length_cons]; omega
  exact this ws h.ok
def spSumWords : Sp := fun vs H Q _ => ∃ (t : Addr) (ts : List (Int × Th)), vs = [.ref t] ∧ TermsAt H t ts ∧ ∀ (p : Addr) (H' : Hp), Same H H' → H' p = some (.tup ((sumW ts).map V.str)) → Q (.ref p) H'
def spPairWords : Sp := fun vs H Q _ => ∃ (t : Addr) (ps : List (Str × Str)), vs = [.ref t] ∧ PairsAt H t ps ∧ ∀ (p : Addr) (H' : Hp), Same H H' → H' p = some (.tup ((pairW ps).map V.str)) → Q (.ref p) H'
def spWhenWords : Sp := fun vs H Q _ => ∃ o : Option Str, vs = [optV o] ∧ ∀ (p : Addr) (H' : Hp), Same H H' → H' p = some (.tup ((whenW o).map V.str)) → Q (.ref p) H'
def spWordsOf : Sp := fun vs H Q _ => ∃ (r : Addr) (ws : List Str), vs = [.ref r] ∧ RowW H r ws ∧ ∀ (p : Addr) (H' : Hp), Same H H' → H' p = some (.tup (ws.map V.str)) → Q (.ref p) H'
def spShown : Sp := fun vs H Q _ => ∃ (r : Addr) (ws : List Str), vs = [.ref r] ∧ RowW H r ws ∧ ∀ H' : Hp, Same H H' → Q (.str (Str.join " " ws)) H'
theorem rowW_of {H : Hp} {r : Addr} {rw : Rw} (h : RowAt H r rw) (ok : RwOk rw) : RowW H r (rowW rw) := by
  cases rw with
  | bring p ps => obtain ⟨t, h1, h2⟩ := h; exact .bring h1 h2 ok.1
  | give o g => exact .give h ok.1 ok.2
  | set o ts => obtain ⟨t, h1, h2⟩ := h; exact .set h1 h2 ok.1
  | take o => exact .two h (by decide +kernel) ok
  | say ts z => obtain ⟨t, h1, h2⟩ := h; exact .say h1 h2 ok.2
  | need ts => obtain ⟨t, h1, h2⟩ := h; exact .need h1 h2
  | ask p z => exact .ask h ok.1 ok.2
  | part p => exact .two h (by decide +kernel) ok
  | doo p => exact .two h (by decide +kernel) ok
theorem inV_strs (x : Str) : ∀ l : List Str, inV (.str x) (l.map V.str) = decide (x ∈ l)
  | [] => by simp [inV]
  | a :: r => by
    have ih := inV_strs x r
    unfold inV at ih ⊢
    rw [List.map_cons, List.any_cons, ih]
    by_cases e : a = x
    · subst e; simp [eqV]
    · have h2 : ¬ x = a := fun z => e z.symm
      simp [eqV, e, h2]
section
variable {P : Program} {w : World} {K : PySem.W.Frag} {mg : Str → Option Value} {base : Heap}
theorem ok_is_name (T : Txt K mg) : Cl P w K mg base 1 "is_name" ["word"] spIsName := by
  refine Cl.of T.d_is_name sc_is_name (fun vs H Q E h => ?_) (fun _ _ _ _ _ _ us hl => match us, hl with | [_], _ => rfl) (fun f cdv A outer s H vs Q E hr h => ?_)
  · obtain ⟨x, rfl, _⟩ := h
    rfl
  · obtain ⟨x, rfl, hx, q⟩ := h
    have hsz : x.length ≤ sizeLine := by have : sizeLine = 16777216 := sizeLine_eq; omega
    refine ⟨_, (pss_cons (ps_if (PW.pt (pw_or (pt_not (pt_chain op_le op_le pe_int (pe_callB call_len_str (by rfl) T.n_len PySem.boot_len (pa_cons (pv 0) pa_nil)) (pe_globS T.g_MOST_SIGNS (by rfl)))) (pw_or1 (pt_cmpR op_notin_str (pe_ix ix_str (pv 0) pe_int (fun _ _ => rfl)) (pe_globS T.g_LETTERS (by rfl)) (by with_unfolding_all rfl)))))
        (pss_one (ps_ret pe_bl)) pss_nil)
      (pss_one (ps_ret (pe_callB (call_all rfl) (by rfl) T.n_all boot_all (pa_cons (pe_comp (M := ["sign"]) (ρ := [none]) (defScope s_is_name) ["word"] ⟨rfl, by decide +kernel, by decide +kernel, by decide +kernel, rfl, by decide +kernel, by decide +kernel⟩ (pi_str (pv 0)) (fun _ _ _ _ _ _ => (pg_name (i := 0) (show (["sign"] : List Str).Nodup by decide +kernel) rfl (Or.inl rfl))) (fun _ _ _ _ _ _ => pts_nil) (fun _ _ _ _ _ _ => (pe_or (pe_cmpR op_in_str (pv 0) (pe_globS T.g_LETTERS (by rfl)) (by with_unfolding_all rfl)) (pe_one (pe_cmpR op_in_str (pv 0) (pe_globS T.g_FIGURES (by rfl)) (by with_unfolding_all rfl)))))) pa_nil))))), ?_⟩
    refine ⟨_, rfl, x, rfl, hsz, _, _, rfl, rfl, _, rfl, ?_⟩
    have hlen : x.length = x.cps.toList.length := by simp [Str.length]
    by_cases h1 : (1 : Int) ≤ x.length
    · refine iteDP h1 ⟨_, _, rfl, rfl, _, rfl, ?_⟩
      by_cases h8 : (x.length : Int) ≤ 8
      · show if (!decide ((x.length : Int) ≤ 8)) = true then _ else _
        refine iteNS h8 ?_
        cases e : x.cps.toList with
        | nil => rw [e] at hlen; simp at hlen; omega
        | cons c r =>
        have hr7 : r.length ≤ 7 := by rw [e] at hlen; simp only [List.length_cons] at hlen; omega
        refine ⟨_, rfl, _, _, _, rfl, rfl, hsz, (by rw [e]; exact atI_nat (j := 0) (v := c) rfl), _, _, rfl, rfl, _, rfl, ?_⟩
        rw [in_let]
        cases hc : isLet c with
        | false =>
          refine iteT ?_
          have := q H (Same.refl H)
          rw [e, show isNm (c :: r) = false by show (isLet c && r.all isSg && decide (r.length ≤ 7)) = false; rw [hc]; rfl] at this
          exact this
        | true =>
        refine iteF ?_
        refine ⟨_, rfl, x, rfl, fun D hD => ?_⟩
        refine comp_by x.cps.size (fun i σ H2 => ∃ v0 : Option V, σ = [v0] ∧ Same H H2 ∧ H2 D = some (.lst ((x.cps.toList.take i).map fun c => V.bl (isSg c)))) ⟨_, rfl, (Same.refl H).new hD, upd_same⟩ ?_ ?_
        · rintro i σ H2 hi ⟨v0, rfl, s2, hD2⟩
          refine ⟨hi, ?_⟩
          rintro v H3 ⟨rfl, d, hd, rfl⟩
          refine ntG ?_
          refine ⟨_, rfl, _, _, rfl, rfl, _, rfl, ?_⟩
          have hlt : (x.cps.toList.take i).length = i := by
            have : x.cps.toList.length = x.cps.size := by simp
            rw [List.length_take]; omega
          have step : ∀ b : Bool, b = isSg d → ∃ ys, H3 D = some (.lst ys) ∧ ys.length < sizeLine ∧ ∃ v0 : Option V, [some (V.str ⟨#[d]⟩)] = [v0] ∧ Same H (upd H3 D (.lst (ys ++ [.bl b]))) ∧ upd H3 D (.lst (ys ++ [.bl b])) D = some (.lst ((x.cps.toList.take (i + 1)).map fun c => V.bl (isSg c))) := fun b hb => by
            refine ⟨_, hD2, small1000 (by rw [List.length_map, hlt]; have : x.cps.size = x.length := rfl; omega), _, rfl, s2.put hD, ?_⟩
            rw [upd_same, take_succ_get hd, hb]
            simp
          rw [in_let]
          cases hl : isLet d with
          | true => exact iteT (step true (by unfold isSg; rw [hl]; rfl))
          | false =>
            refine iteF ⟨_, rfl, _, _, rfl, rfl, ?_⟩
            rw [in_fig]
            exact step (isFig d) (by unfold isSg; rw [hl]; rfl)
        · rintro σ H2 ⟨v0, rfl, s2, hD2⟩
          refine ⟨Nat.le_refl _, D, x.cps.toList.map isSg, rfl, ?_, ?_⟩
          · rw [List.take_of_length_le (by simp)] at hD2
            rw [List.map_map]
            exact SqL.of hD2
          · have := q H2 s2
            rw [e] at this ⊢
            rw [show ((c :: r).map isSg).all id = isNm (c :: r) by
              show _ = (isLet c && r.all isSg && decide (r.length ≤ 7))
              rw [hc, decide_eq_true hr7, List.map_cons, List.all_cons, List.all_map]
              simp [isSg, hc]]
            exact this
      · show if (!decide ((x.length : Int) ≤ 8)) = true then _ else _
        rw [decide_eq_false h8]
        refine iteT ?_
        have := q H (Same.refl H)
        rw [show isNm x.cps.toList = false by
          cases e : x.cps.toList with
          | nil => rfl
          | cons c r =>
            show (isLet c && r.all isSg && decide (r.length ≤ 7)) = false
            rw [decide_eq_false (by rw [e] at hlen; simp only [List.length_cons] at hlen; omega)]
            simp] at this
        exact this
    · refine iteDN h1 ⟨_, rfl, ?_⟩
      refine iteT ?_
      have := q H (Same.refl H)
      rw [show isNm x.cps.toList = false by
        cases e : x.cps.toList with
        | nil => rfl
        | cons c r => rw [e] at hlen; simp only [List.length_cons] at hlen; omega] at this
      exact this
theorem ok_is_number (T : Txt K mg) : Cl P w K mg base 1 "is_number" ["word"] spIsNumber := by
  refine Cl.of T.d_is_number sc_is_number (fun vs H Q E h => ?_) (fun _ _ _ _ _ _ us hl => match us, hl with | [_], _ => rfl) (fun f cdv A outer s H vs Q E hr h => ?_)
  · obtain ⟨x, rfl, _⟩ := h
    rfl
  · obtain ⟨x, rfl, hx, q⟩ := h
    have hsz : x.length ≤ sizeLine := by have : sizeLine = 16777216 := sizeLine_eq; omega
    have hlen : x.length = x.cps.toList.length := by simp [Str.length]
    have no : isNumL x.cps.toList = false → Q (.bl false) H := fun e => by
      have := q H (Same.refl H)
      rw [e] at this
      exact this
    refine ⟨_, (pss_cons (ps_if (PW.pt (pw_or (pt_not (pt_chain op_le op_le pe_int (pe_callB call_len_str (by rfl) T.n_len PySem.boot_len (pa_cons (pv 0) pa_nil)) (pe_globS T.g_MOST_FIGURES (by rfl)))) (pw_or1 (PW.pt (pw_and (pt_cmpR op_eq (pe_ix ix_str (pv 0) pe_int (fun _ _ => rfl)) pe_str (nomark _)) (pw_and1 (pt_cmpR op_ne (pv 0) pe_str (nomark _))))))))
        (pss_one (ps_ret pe_bl)) pss_nil)
      (pss_one (ps_ret (pe_callB (call_all rfl) (by rfl) T.n_all boot_all (pa_cons (pe_comp (M := ["sign"]) (ρ := [none]) (defScope s_is_number) ["word"] ⟨rfl, by decide +kernel, by decide +kernel, by decide +kernel, rfl, by decide +kernel, by decide +kernel⟩ (pi_str (pv 0)) (fun _ _ _ _ _ _ => (pg_name (i := 0) (show (["sign"] : List Str).Nodup by decide +kernel) rfl (Or.inl rfl))) (fun _ _ _ _ _ _ => pts_nil) (fun _ _ _ _ _ _ => (pe_cmpR op_in_str (pv 0) (pe_globS T.g_FIGURES (by rfl)) (by with_unfolding_all rfl)))) pa_nil))))), ?_⟩
    refine ⟨_, rfl, x, rfl, hsz, _, _, rfl, rfl, _, rfl, ?_⟩
    by_cases h1 : (1 : Int) ≤ x.length
    · refine iteDP h1 ⟨_, _, rfl, rfl, _, rfl, ?_⟩
      by_cases h8 : (x.length : Int) ≤ 60
      · show if (!decide ((x.length : Int) ≤ 60)) = true then _ else _
        refine iteNS h8 ?_
        cases e : x.cps.toList with
        | nil => rw [e] at hlen; simp at hlen; omega
        | cons c r =>
        have zero : ("0" : Str) = ⟨#[48]⟩ := by decide +kernel
        have hx0 : x = ⟨#[48]⟩ ↔ c :: r = [48] := ⟨fun z => by rw [z] at e; exact e.symm, fun z => str_ext (by rw [e, z])⟩
        refine ⟨_, rfl, _, _, _, rfl, rfl, hsz, (by rw [e]; exact atI_nat (j := 0) (v := c) rfl), rfl, _, rfl, ?_⟩
        have body : ¬ (c = 48 ∧ ¬ c :: r = [48]) → ∀ D, H D = none → _ := fun hg D hD =>
          comp_by (J := Its x) (g := gName 0) (tt := tNoTest) (te := tOp (fun x y H Q => ∃ i j, x = V.str i ∧ y = V.str j ∧ Q (V.bl !(Builtin.Str.occurrences j i 0 j.length 1).isEmpty) H) (tVar 0) (tC (V.str "0123456789"))) (Q := fun H2 => ∃ (p : Addr) (bs : List Bool), [V.ref D] = [.ref p] ∧ SqL K H2 p (bs.map V.bl) ∧ Q (.bl (bs.all id)) H2) (σ := [none]) (H := H) x.cps.size
            (fun i σ H2 => ∃ v0 : Option V, σ = [v0] ∧ Same H H2 ∧ H2 D = some (.lst ((x.cps.toList.take i).map fun c => V.bl (isFig c)))) ⟨_, rfl, (Same.refl H).new hD, upd_same⟩ (by
              rintro i σ H2 hi ⟨v0, rfl, s2, hD2⟩
              refine ⟨hi, ?_⟩
              rintro v H3 ⟨rfl, d, hd, rfl⟩
              refine ntG ?_
              refine ⟨_, rfl, _, _, rfl, rfl, ?_⟩
              have hlt : (x.cps.toList.take i).length = i := by
                have : x.cps.toList.length = x.cps.size := by simp
                rw [List.length_take]; omega
              refine ⟨_, hD2, small1000 (by rw [List.length_map, hlt]; have : x.cps.size = x.length := rfl; omega), _, rfl, s2.put hD, ?_⟩
              rw [in_fig, upd_same, take_succ_get hd]
              simp) (by
              rintro σ H2 ⟨v0, rfl, s2, hD2⟩
              refine ⟨Nat.le_refl _, D, x.cps.toList.map isFig, rfl, ?_, ?_⟩
              · rw [List.take_of_length_le (by simp)] at hD2
                rw [List.map_map]
                exact SqL.of hD2
              · have := q H2 s2
                rw [e] at this ⊢
                rw [show ((c :: r).map isFig).all id = isNumL (c :: r) by
                  unfold isNumL
                  rw [decide_eq_true (by simp), decide_eq_true (by rw [e] at hlen; omega), List.all_map]
                  rw [show (decide ((c :: r).head? = some 48) && !decide (c :: r = [48])) = false by
                    rw [Bool.and_eq_false_iff]
                    by_cases hc : c = 48
                    · refine .inr ?_
                      have : c :: r = [48] := by
                        by_cases z : c :: r = [48]
                        · exact z
                        · exact absurd ⟨hc, z⟩ hg
                      rw [decide_eq_true this]; rfl
                    · exact .inl (decide_eq_false (by simpa using hc))]
                  rfl]
                exact this)
        have bad : c = 48 ∧ ¬ c :: r = [48] → isNumL x.cps.toList = false := fun ⟨hc, hn⟩ => by
          rw [e]
          unfold isNumL
          rw [show (decide ((c :: r).head? = some 48) && !decide (c :: r = [48])) = true by rw [decide_eq_true (by simpa using hc), decide_eq_false hn]; rfl]
          simp
        by_cases hc : c = 48
        · rw [zero, hc]
          refine iteSE ⟨_, rfl, rfl, _, rfl, ?_⟩
          by_cases hn : c :: r = [48]
          · rw [hx0.mpr hn]
            refine iteNS rfl ?_
            rw [← hx0.mpr hn]
            exact ⟨_, rfl, x, rfl, body fun z => z.2 hn⟩
          · rw [decide_eq_false fun z => hn (hx0.mp (V.str.inj z))]
            exact iteT (no (bad ⟨hc, hn⟩))
        · rw [zero]
          refine iteSN (fun z => hc (by simpa using z)) ?_
          exact ⟨_, rfl, x, rfl, body fun z => hc z.1⟩
      · show if (!decide ((x.length : Int) ≤ 60)) = true then _ else _
        rw [decide_eq_false h8]
        refine iteT (no ?_)
        unfold isNumL
        rw [decide_eq_false (p := x.cps.toList.length ≤ 60) (by rw [← hlen]; omega)]
        simp
    · refine iteDN h1 ⟨_, rfl, ?_⟩
      refine iteT (no ?_)
      unfold isNumL
      rw [decide_eq_false (p := 1 ≤ x.cps.toList.length) (by rw [← hlen]; omega)]
      simp
theorem ok_read_name (T : Txt K mg) : Cl P w K mg base 2 "read_name" ["word"] spReadName := by
  have C_is_name := ok_is_name (P := P) (w := w) (base := base) T
  refine Cl.of T.d_read_name sc_read_name (fun vs H Q E h => ?_) (fun _ _ _ _ _ _ us hl => match us, hl with | [_], _ => rfl) (fun f cdv A outer s H vs Q E hr h => ?_)
  · obtain ⟨x, rfl, _⟩ := h
    rfl
  · obtain ⟨x, rfl, hn, q⟩ := h
    refine ⟨_, (pss_cons (ps_if (pt_not (pt_val (pe_fn C_is_name hr (by rfl) (pa_cons (pv 0) pa_nil))))
        (pss_one ps_never) pss_nil)
      (pss_one (ps_ret (pv 0)))), ?_⟩
    refine ⟨_, rfl, x, rfl, (by have := hn.len; omega), fun H1 s1 => ⟨_, rfl, ?_⟩⟩
    rw [show isNm x.cps.toList = true from hn]
    exact iteF ⟨_, rfl, q H1 s1⟩
theorem ok_read_thing (T : Txt K mg) : Cl P w K mg base 3 "read_thing" ["word"] spReadThing := by
  have C_is_number := ok_is_number (P := P) (w := w) (base := base) T
  have C_read_name := ok_read_name (P := P) (w := w) (base := base) T
  refine Cl.of T.d_read_thing sc_read_thing (fun vs H Q E h => ?_) (fun _ _ _ _ _ _ us hl => match us, hl with | [_], _ => rfl) (fun f cdv A outer s H vs Q E hr h => ?_)
  · obtain ⟨x, rfl, _⟩ := h
    rfl
  · obtain ⟨t, rfl, hok, q⟩ := h
    refine ⟨_, (pss_cons (ps_if (pt_val (pe_fn C_is_number hr (by rfl) (pa_cons (pv 0) pa_nil)))
        (pss_one (ps_ret (pe_callTy call_int_text (by rfl) T.n_int boot_int (pa_cons (pv 0) pa_nil)))) pss_nil)
      (pss_one (ps_ret (pe_fn C_read_name hr (by rfl) (pa_cons (pv 0) pa_nil))))), ?_⟩
    refine ⟨_, rfl, _, rfl, (by have := hok.word.len; omega), fun H1 s1 => ⟨_, rfl, ?_⟩⟩
    cases t with
    | num n =>
      rw [num_isNum hok]
      exact iteT ⟨_, rfl, _, n, rfl, (num_reads hok).1, (num_reads hok).2, q H1 s1⟩
    | nam x =>
      rw [show isNumL (thS (.nam x)).cps.toList = false from name_notNum hok]
      exact iteF ⟨_, rfl, x, rfl, hok, fun H2 s2 => q H2 (s1.trans s2)⟩
theorem ok_read_sign (T : Txt K mg) : Cl P w K mg base 1 "read_sign" ["word"] spReadSign := by
  refine Cl.of T.d_read_sign sc_read_sign (fun vs H Q E h => ?_) (fun _ _ _ _ _ _ us hl => match us, hl with | [_], _ => rfl) (fun f cdv A outer s H vs Q E hr h => ?_)
  · obtain ⟨x, rfl, _⟩ := h
    rfl
  · obtain ⟨z, rfl, hz, q⟩ := h
    refine ⟨_, (pss_cons (ps_if (pt_cmpR op_eq (pv 0) pe_str (nomark _))
        (pss_one (ps_ret pe_int)) pss_nil)
      (pss_cons (ps_if (pt_cmpR op_eq (pv 0) pe_str (nomark _))
        (pss_one (ps_ret (pe_un un_neg pe_int))) pss_nil)
      (pss_one ps_never))), ?_⟩
    rcases hz with rfl | rfl
    · exact ⟨_, rfl, rfl, _, rfl, iteSE q⟩
    · exact ⟨_, rfl, rfl, _, rfl, iteSN (x := "-") (by decide +kernel) ⟨_, rfl, rfl, _, rfl, iteSE ⟨_, rfl, q⟩⟩⟩
theorem ok_read_only_name (T : Txt K mg) : Cl P w K mg base 3 "read_only_name" ["words"] spReadOnly := by
  have C_read_name := ok_read_name (P := P) (w := w) (base := base) T
  refine Cl.of T.d_read_only_name sc_read_only_name (fun vs H Q E h => ?_) (fun _ _ _ _ _ _ us hl => match us, hl with | [_], _ => rfl) (fun f cdv A outer s H vs Q E hr h => ?_)
  · obtain ⟨l, x, rfl, _⟩ := h
    rfl
  · obtain ⟨l, x, rfl, hl, hn, q⟩ := h
    refine ⟨_, (pss_cons (ps_if (pt_cmpR op_ne (pe_callB call_len_seq (by rfl) T.n_len PySem.boot_len (pa_cons (pv 0) pa_nil)) pe_int (nomark _))
        (pss_one ps_never) pss_nil)
      (pss_one (ps_ret (pe_fn C_read_name hr (by rfl) (pa_cons (pe_ix ix_list (pv 0) pe_int (fun _ _ => rfl)) pa_nil))))), ?_⟩
    exact ⟨_, rfl, l, _, rfl, .inl (SqL.of hl), rfl, _, rfl, iteNS rfl ⟨_, rfl, l, _, _, _, rfl, rfl, SqL.of hl, atI_nat (j := 0) rfl, x, rfl, hn, q⟩⟩
theorem ok_read_pair (T : Txt K mg) : Cl P w K mg base 3 "read_pair" ["words"] spReadPair := by
  have C_read_name := ok_read_name (P := P) (w := w) (base := base) T
  refine Cl.of T.d_read_pair sc_read_pair (fun vs H Q E h => ?_) (fun _ _ _ _ _ _ us hl => match us, hl with | [_], _ => rfl) (fun f cdv A outer s H vs Q E hr h => ?_)
  · obtain ⟨l, g, o, rfl, _⟩ := h
    rfl
  · obtain ⟨l, g, o, rfl, hl, hg, ho, q⟩ := h
    refine ⟨_, (pss_cons (ps_if (PW.pt (pw_or (pt_cmpR op_ne (pe_callB call_len_seq (by rfl) T.n_len PySem.boot_len (pa_cons (pv 0) pa_nil)) pe_int (nomark _)) (pw_or1 (pt_cmpR op_ne (pe_ix ix_list (pv 0) pe_int (fun _ _ => rfl)) pe_str (nomark _)))))
        (pss_one ps_never) pss_nil)
      (pss_one (ps_ret (pe_tup (pa_cons (pe_fn C_read_name hr (by rfl) (pa_cons (pe_ix ix_list (pv 0) pe_int (fun _ _ => rfl)) pa_nil)) (pa_cons (pe_fn C_read_name hr (by rfl) (pa_cons (pe_ix ix_list (pv 0) pe_int (fun _ _ => rfl)) pa_nil)) pa_nil)))))), ?_⟩
    refine ⟨_, rfl, l, _, rfl, .inl (SqL.of hl), rfl, _, rfl, iteNS rfl ⟨_, rfl, l, _, _, _, rfl, rfl, SqL.of hl, atI_nat (j := 1) rfl, rfl, _, rfl, iteNS rfl ?_⟩⟩
    refine ⟨_, rfl, l, _, _, _, rfl, rfl, SqL.of hl, atI_nat (j := 0) rfl, g, rfl, hg, fun H1 s1 => ?_⟩
    refine ⟨_, rfl, l, _, _, _, rfl, rfl, SqL.of (s1 _ _ hl), atI_nat (j := 2) rfl, o, rfl, ho, fun H2 s2 => ⟨(by show 2 ≤ sizeLine; decide), fun p hp => ?_⟩⟩
    exact q p _ ((s1.trans s2).new hp) upd_same
theorem atI_m2 {α : Type} (us : List α) (a b : α) : atI (us ++ [a, b]) (-2) = some a := by
  have h : (us ++ [a, b]).length = us.length + 2 := by simp
  unfold atI ixN
  rw [h, if_neg (by omega), if_pos (by omega)]
  show (us ++ [a, b])[((-2 : Int) + ((us.length + 2 : Nat) : Int)).toNat]? = some a
  rw [show ((-2 : Int) + ((us.length + 2 : Nat) : Int)).toNat = us.length by omega]
  simp
theorem ok_has_when (T : Txt K mg) : Cl P w K mg base 1 "has_when" ["words"] spHasWhen := by
  refine Cl.of T.d_has_when sc_has_when (fun vs H Q E h => ?_) (fun _ _ _ _ _ _ us hl => match us, hl with | [_], _ => rfl) (fun f cdv A outer s H vs Q E hr h => ?_)
  · obtain ⟨l, ws, rfl, _⟩ := h
    rfl
  · obtain ⟨l, ws, rfl, hl, q⟩ := h
    refine ⟨_, (pss_one (ps_ret (pe_and (pe_cmpR op_gt (pe_callB call_len_seq (by rfl) T.n_len PySem.boot_len (pa_cons (pv 0) pa_nil)) pe_int (nomark _)) (pe_one (pe_cmpR op_eq (pe_ix ix_list (pv 0) (pe_un un_neg pe_int) (fun _ _ => rfl)) pe_str (nomark _)))))), ?_⟩
    refine ⟨_, rfl, l, _, rfl, .inl (SqL.of hl), _, _, rfl, rfl, _, rfl, ?_⟩
    rcases q with ⟨us, z, rfl, hne, q⟩ | ⟨h2, q⟩ | ⟨us, a, b, rfl, hne, hab, q⟩
    · have h3 : 1 ≤ us.length := by cases us with | nil => exact absurd rfl hne | cons _ _ => simp
      rw [List.map_append] at hl
      refine iteDP (by simp; omega) ⟨_, rfl, _, rfl, l, _, _, _, rfl, rfl, SqL.of hl, atI_m2 .., rfl, ?_⟩
      rw [decide_eq_true rfl]
      exact q
    · exact iteDN (by simp; omega) q
    · have h3 : 1 ≤ us.length := by cases us with | nil => exact absurd rfl hne | cons _ _ => simp
      rw [List.map_append] at hl
      refine iteDP (by simp; omega) ⟨_, rfl, _, rfl, l, _, _, _, rfl, rfl, SqL.of hl, atI_m2 .., rfl, ?_⟩
      rw [decide_eq_false fun e => hab (V.str.inj e)]
      exact q
theorem tailW_get : ∀ (ts : List (Int × Th)) (i : Nat) (p : Int × Th), ts[i]? = some p → (tailW ts)[2 * i]? = some (sgS p.1) ∧ (tailW ts)[2 * i + 1]? = some (thS p.2)
  | [], i, p, h => by simp at h
  | (s, t) :: r, 0, p, h => by
    have e : (s, t) = p := by simpa using h
    subst e
    exact ⟨rfl, rfl⟩
  | (s, t) :: r, i + 1, p, h => by
    obtain ⟨h1, h2⟩ := tailW_get r i p (by simpa using h)
    show (sgS s :: thS t :: tailW r)[2 * (i + 1)]? = _ ∧ (sgS s :: thS t :: tailW r)[2 * (i + 1) + 1]? = _
    rw [show 2 * (i + 1) = 2 * i + 1 + 1 by omega]
    simp only [List.getElem?_cons_succ]
    exact ⟨h1, h2⟩
theorem sumW_get {ts : List (Int × Th)} {i : Nat} {p : Int × Th} (h : ts[i + 1]? = some p) : (sumW ts)[2 * i + 1]? = some (sgS p.1) ∧ (sumW ts)[2 * i + 2]? = some (thS p.2) := by
  cases ts with
  | nil => simp at h
  | cons q r =>
    obtain ⟨h1, h2⟩ := tailW_get r i p (by simpa using h)
    show (thS q.2 :: tailW r)[2 * i + 1]? = _ ∧ (thS q.2 :: tailW r)[2 * i + 2]? = _
    simp only [List.getElem?_cons_succ]
    exact ⟨h1, h2⟩
theorem for_range3 {lo c : Int} {n : Nat} {g : TG} {tb : TS} {D : Ends} {σ : L2.St} {H : Hp} (Pv : Nat → L2.St → Hp → Prop) (h0 : Pv 0 σ H)
    (hs : ∀ i σ H, i < n → Pv i σ H → g (.int (lo + i * c)) σ H fun σ2 H2 => tb { D with nx := Pv (i + 1), ct := Pv (i + 1), bk := D.nx } σ2 H2) (hd : ∀ σ H, Pv n σ H → D.nx σ H) :
    ∃ W : Nat → Nat → L2.St → Hp → Prop, (∃ m, W 0 m σ H) ∧ ∀ i m σ H, W i m σ H →
      ((Itr3 lo c n).stop i H ∧ D.nx σ H) ∨ ((Itr3 lo c n).go i H ∧ ∃ N : L2.St → Hp → Prop, (∀ σ' H', N σ' H' → ∃ m', m' < m ∧ W (i + 1) m' σ' H') ∧ ∀ x H', (Itr3 lo c n).yld i H x H' → g x σ H' fun σ2 H2 => tb { D with nx := N, ct := N, bk := D.nx } σ2 H2) := by
  refine ⟨fun i m σ H => m = n - i ∧ i ≤ n ∧ Pv i σ H, ⟨n, by simp, Nat.zero_le _, h0⟩, ?_⟩
  rintro i m σ H ⟨rfl, hi, p⟩
  by_cases hlt : i < n
  · refine .inr ⟨hlt, Pv (i + 1), fun σ' H' p' => ⟨n - (i + 1), by omega, rfl, hlt, p'⟩, fun x H' y => ?_⟩
    obtain ⟨e, y⟩ := y
    subst e y
    exact hs i σ _ hlt p
  · have e : i = n := by omega
    subst e
    exact .inl ⟨Nat.le_refl _, hd σ H p⟩
theorem rsize {n c : Nat} (hc : 0 < c) : (Builtin.Range.rangeSize 1 ((c * n + 1 : Nat) : Int) (c : Int)).toNat = n := by
  unfold Builtin.Range.rangeSize
  rw [if_pos (by omega)]
  by_cases hn : n = 0
  · subst hn
    rw [if_neg (by simp)]
    rfl
  · have h1 : 1 ≤ c * n := Nat.mul_pos hc (by omega)
    rw [if_pos (by omega)]
    have : (((c * n + 1 : Nat) : Int) - 1 - 1) / (c : Int) = ((n - 1 : Nat) : Int) := by
      have e : ((c * n + 1 : Nat) : Int) - 1 - 1 = ((c * (n - 1) + (c - 1) : Nat) : Int) := by
        have : c * n = c * (n - 1) + c := by
          rw [← Nat.mul_succ]
          congr 1
          omega
        omega
      rw [e, ← Int.natCast_ediv]
      congr 1
      rw [Nat.mul_add_div hc, Nat.div_eq_of_lt (by omega)]
      omega
    rw [this]
    omega
theorem ok_read_sum (T : Txt K mg) : Cl P w K mg base 4 "read_sum" ["words"] spReadSum := by
  have C_read_thing := ok_read_thing (P := P) (w := w) (base := base) T
  have C_read_sign := ok_read_sign (P := P) (w := w) (base := base) T
  refine Cl.of T.d_read_sum sc_read_sum (fun vs H Q E h => ?_) (fun _ _ _ _ _ _ us hl => match us, hl with | [_], _ => rfl) (fun f cdv A outer s H vs Q E hr h => ?_)
  · obtain ⟨l, ts, rfl, _⟩ := h
    rfl
  · obtain ⟨l, ts, rfl, hl, hok, q⟩ := h
    have hlen := sumW_len hok.lo
    have hlo := hok.lo
    have hhi := hok.hi
    refine ⟨_, (pss_cons (ps_if (PW.pt (pw_or (pt_cmpR op_ne (pe_op op_mod (pe_callB call_len_seq (by rfl) T.n_len PySem.boot_len (pa_cons (pv 0) pa_nil)) pe_int) pe_int (nomark _)) (pw_or1 (pt_cmpR op_gt (pe_callB call_len_seq (by rfl) T.n_len PySem.boot_len (pa_cons (pv 0) pa_nil)) (pe_op op_sub (pe_op op_mul pe_int (pe_globS T.g_MOST_TERMS (by rfl))) pe_int) (nomark _)))))
        (pss_one ps_never) pss_nil)
      (pss_cons (ps_set (i := 1) sc_read_sum.nd rfl (Or.inl rfl) (pe_lst (pa_cons (pe_tup (pa_cons pe_int (pa_cons (pe_fn C_read_thing hr (by rfl) (pa_cons (pe_ix ix_list (pv 0) pe_int (fun _ _ => rfl)) pa_nil)) pa_nil))) pa_nil)))
      (pss_cons (ps_for PassesOwn.never rfl (pi_range3 (by rfl) T.n_range (pa_cons pe_int (pa_cons (pe_callB call_len_seq (by rfl) T.n_len PySem.boot_len (pa_cons (pv 0) pa_nil)) (pa_cons pe_int pa_nil)))) (pg_name (i := 2) sc_read_sum.nd rfl (Or.inl rfl))
        (pss_one (ps_expr (pe_bm PySem.F.plainAttrs_list PySem.F.slot_list_append PySem.F.type_list_append mt_append (pv 1) (pa_cons (pe_tup (pa_cons (pe_fn C_read_sign hr (by rfl) (pa_cons (pe_ix ix_list (pv 0) (pv 2) (fun _ _ => rfl)) pa_nil)) (pa_cons (pe_fn C_read_thing hr (by rfl) (pa_cons (pe_ix ix_list (pv 0) (pe_op op_add (pv 2) pe_int) (fun _ _ => rfl)) pa_nil)) pa_nil))) pa_nil)))))
      (pss_one (ps_ret (pe_callTy call_tuple_of (by rfl) T.n_tuple boot_tuple (pa_cons (pv 1) pa_nil))))))), ?_⟩
    refine ⟨_, rfl, l, _, rfl, .inl (SqL.of hl), _, _, rfl, rfl, (by show (0 : Int) < 2; decide), rfl, _, rfl, ?_⟩
    rw [List.length_map]
    refine iteNS (show V.int (((sumW ts).length : Int) % 2) = V.int 1 from congrArg V.int (by omega)) ?_
    refine ⟨_, rfl, l, _, rfl, .inl (SqL.of hl), _, _, rfl, rfl, .inl ⟨by decide, by decide⟩, _, _, rfl, rfl, _, _, rfl, rfl, _, rfl, ?_⟩
    rw [List.length_map]
    refine iteDN (by omega) ?_
    obtain ⟨p0, r0, ets⟩ : ∃ p r, ts = p :: r := by
      cases ts with
      | nil => simp at hlo
      | cons p r => exact ⟨p, r, rfl⟩
    have h0 : (sumW ts)[0]? = some (thS p0.2) := by rw [ets]; rfl
    have hp0 : p0.1 = 1 := hok.hd p0 (by rw [ets]; rfl)
    have hth0 : ThOk p0.2 := hok.th p0 (by rw [ets]; exact List.mem_cons_self)
    refine ⟨_, rfl, l, _, _, _, rfl, rfl, SqL.of hl, atI_nat (j := 0) (v := .str (thS p0.2)) (by rw [List.getElem?_map, h0]; rfl), p0.2, rfl, hth0, fun H1 s1 => ⟨(by show 2 ≤ sizeLine; decide), fun a ha => ⟨(by show 1 ≤ sizeLine; decide), fun d hd => ?_⟩⟩⟩
    have s2 := (s1.new (o := .tup [.int 1, thV p0.2]) ha).new (o := .lst [.ref a]) hd
    have hd0 : H d = none := (s1.new ha).free hd
    have e1 : ts.take 1 = [p0] := by rw [ets]; rfl
    refine ⟨_, rfl, l, _, rfl, .inl (SqL.of (s2 _ _ hl)), 1, _, 2, rfl, ⟨by decide, by decide, by rw [List.length_map]; omega, by rw [List.length_map]; omega, by decide, by decide⟩, ?_⟩
    have hn : (Builtin.Range.rangeSize 1 (((sumW ts).map V.str).length : Int) 2).toNat = ts.length - 1 := by
      rw [List.length_map, show (sumW ts).length = 2 * (ts.length - 1) + 1 by omega]
      exact rsize (c := 2) (by decide)
    rw [hn]
    refine for_range3 (fun i σ H2 => ∃ (vs : List V) (v2 : Option V), σ = [some (.ref l), some (.ref d), v2] ∧ Same H H2 ∧ H2 d = some (.lst vs) ∧ Terms H2 vs (ts.take (i + 1)))
      ⟨[.ref a], none, rfl, s2, upd_same, ?_⟩ ?_ ?_
    · rw [e1]
      refine .cons ⟨a, rfl, ?_, hth0⟩ .nil
      rw [hp0]
      exact upd_keep upd_same hd
    · rintro i σ H2 hi ⟨vs, v2, rfl, s3, hd3, ht⟩
      obtain ⟨p, hp⟩ : ∃ p, ts[i + 1]? = some p := ⟨ts[i + 1], by simp⟩
      have hpm := List.mem_of_getElem? hp
      obtain ⟨g1, g2⟩ := sumW_get hp
      have hvl : vs.length = i + 1 := by rw [Paired.length ht, List.length_take]; omega
      refine ⟨_, rfl, .inl ⟨rfl, _, SqL.of hd3⟩, _, rfl, _, rfl, l, _, _, _, rfl, rfl, SqL.of (s3 _ _ hl), ?_, p.1, rfl, hok.sg p hpm, ?_⟩
      · rw [show (1 : Int) + i * 2 = ((2 * i + 1 : Nat) : Int) by omega]
        exact atI_nat (by rw [List.getElem?_map, g1]; try rfl)
      refine ⟨_, rfl, _, rfl, _, _, rfl, rfl, l, _, _, _, rfl, rfl, SqL.of (s3 _ _ hl), ?_, p.2, rfl, hok.th p hpm, fun H4 s4 => ?_⟩
      · rw [show (1 : Int) + i * 2 + 1 = ((2 * i + 2 : Nat) : Int) by omega]
        exact atI_nat (by rw [List.getElem?_map, g2]; try rfl)
      refine ⟨(by show 2 ≤ sizeLine; decide), fun b hb => ⟨d, _, _, rfl, rfl, upd_keep (s4 _ _ hd3) hb, small1000 (by omega), ?_⟩⟩
      refine ⟨vs ++ [.ref b], _, rfl, ((s3.trans s4).new hb).put hd0, upd_same, ?_⟩
      rw [take_succ_get hp]
      refine Paired.snoc (((Terms.mono s4.tups ht).mono (Tups.new hb)).mono (Tups.lst (upd_keep (s4 _ _ hd3) hb))) ⟨b, rfl, ?_, hok.th p hpm⟩
      rw [upd_ne (ne_of_none (s4 _ _ hd3) hb).symm]
      exact upd_same
    · rintro σ H2 ⟨vs, v2, rfl, s3, hd3, ht⟩
      refine ⟨_, rfl, d, _, rfl, .inl ⟨SqL.of hd3, fun t gt => ?_⟩⟩
      refine q t _ (s3.new gt) ⟨⟨vs, upd_same, ?_⟩, hlo, hhi⟩
      rw [show ts.length - 1 + 1 = ts.length by omega, List.take_length] at ht
      exact ht.mono (Tups.new gt)
theorem cut_from (xs : List V) (k : Nat) (hk : k ≤ xs.length) : cutV xs (some (k : Int)) none = xs.drop k := by
  unfold cutV
  rw [HT.sIx_none, HT.sIx_nat, Nat.min_eq_left hk, List.take_of_length_le (by simp)]
theorem cut_mid (xs : List V) (i j : Nat) (hij : i ≤ j) (hj : j ≤ xs.length) : cutV xs (some (i : Int)) (some (j : Int)) = (xs.drop i).take (j - i) := by
  unfold cutV
  rw [HT.sIx_nat, HT.sIx_nat, Nat.min_eq_left hj, Nat.min_eq_left (Nat.le_trans hij hj)]
theorem cut_m2 (us : List V) (a b : V) : cutV (us ++ [a, b]) none (some (-2)) = us := by
  unfold cutV
  rw [HT.sIx_none]
  have e : HT.sIx (us ++ [a, b]).length (us ++ [a, b]).length (some (-2)) = us.length := by
    unfold HT.sIx
    simp only [List.length_append, List.length_cons, List.length_nil]
    split <;> omega
  rw [e]
  simp
theorem ok_read_set (T : Txt K mg) : Cl P w K mg base 5 "read_set" ["words"] spReadSet := by
  have C_read_name := ok_read_name (P := P) (w := w) (base := base) T
  have C_read_sum := ok_read_sum (P := P) (w := w) (base := base) T
  refine Cl.of T.d_read_set sc_read_set (fun vs H Q E h => ?_) (fun _ _ _ _ _ _ us hl => match us, hl with | [_], _ => rfl) (fun f cdv A outer s H vs Q E hr h => ?_)
  · obtain ⟨l, o, ts, rfl, _⟩ := h
    rfl
  · obtain ⟨l, o, ts, rfl, hl, ⟨ho, hok⟩, q⟩ := h
    have hlen := sumW_len hok.lo
    have hlo := hok.lo
    refine ⟨_, (pss_cons (ps_if (PW.pt (pw_or (pt_cmpR op_lt (pe_callB call_len_seq (by rfl) T.n_len PySem.boot_len (pa_cons (pv 0) pa_nil)) pe_int (nomark _)) (pw_or1 (pt_cmpR op_ne (pe_ix ix_list (pv 0) pe_int (fun _ _ => rfl)) pe_str (nomark _)))))
        (pss_one ps_never) pss_nil)
      (pss_one (ps_ret (pe_tup (pa_cons pe_str (pa_cons (pe_fn C_read_name hr (by rfl) (pa_cons (pe_ix ix_list (pv 0) pe_int (fun _ _ => rfl)) pa_nil)) (pa_cons (pe_fn C_read_sum hr (by rfl) (pa_cons (pe_slice sl_list (pv 0) (po_some pe_int) po_none) pa_nil)) pa_nil))))))), ?_⟩
    refine ⟨_, rfl, l, _, rfl, .inl (SqL.of hl), _, _, rfl, rfl, _, rfl, ?_⟩
    refine iteDN (by simp only [List.length_map, List.length_cons]; omega) ?_
    refine ⟨_, rfl, l, _, _, _, rfl, rfl, SqL.of hl, atI_nat (j := 1) (v := .str "=") rfl, rfl, _, rfl, iteNS rfl ?_⟩
    refine ⟨_, rfl, l, _, _, _, rfl, rfl, SqL.of hl, atI_nat (j := 0) (v := .str o) rfl, o, rfl, ho, fun H1 s1 => ?_⟩
    refine ⟨_, rfl, _, rfl, l, _, rfl, SqL.of (s1 _ _ hl), fun d hd => ?_⟩
    refine ⟨d, ts, rfl, ?_, hok, fun t H2 s2 ht => ⟨(by show 3 ≤ sizeLine; decide), fun r hr => ?_⟩⟩
    · rw [upd_same]
      exact congrArg (fun z => some (HO.lst z)) (cut_from ((o :: "=" :: sumW ts).map V.str) 2 (by simp))
    · exact q r _ (((s1.new hd).trans s2).new hr) ⟨t, upd_same, ht.mono (Tups.new hr)⟩
theorem sumW_two {ts : List (Int × Th)} (h : 2 ≤ ts.length) : ∃ (us : List Str) (p : Int × Th), sumW ts = us ++ [sgS p.1, thS p.2] ∧ us ≠ [] := by
  obtain ⟨us, p, rfl⟩ : ∃ us p, ts = us ++ [p] := ⟨ts.dropLast, ts.getLast (by intro z; rw [z] at h; simp at h), (List.dropLast_concat_getLast _).symm⟩
  have hu : us ≠ [] := by rintro rfl; simp at h
  refine ⟨sumW us, p, sumW_snoc p.1 p.2 hu, ?_⟩
  cases us with
  | nil => exact absurd rfl hu
  | cons a b => intro z; cases z
theorem sgS_when (z : Int) : sgS z ≠ "when" := by
  unfold sgS
  split
  · decide +kernel
  · decide +kernel
theorem ok_read_say (T : Txt K mg) : Cl P w K mg base 5 "read_say" ["words"] spReadSay := by
  have C_has_when := ok_has_when (P := P) (w := w) (base := base) T
  have C_read_name := ok_read_name (P := P) (w := w) (base := base) T
  have C_read_sum := ok_read_sum (P := P) (w := w) (base := base) T
  refine Cl.of T.d_read_say sc_read_say (fun vs H Q E h => ?_) (fun _ _ _ _ _ _ us hl => match us, hl with | [_], _ => rfl) (fun f cdv A outer s H vs Q E hr h => ?_)
  · obtain ⟨l, ts, z, rfl, _⟩ := h
    rfl
  · obtain ⟨l, ts, z, rfl, hl, ⟨hok, hz⟩, q⟩ := h
    have hlen := sumW_len hok.lo
    have hlo := hok.lo
    have hne : sumW ts ≠ [] := by intro e; rw [e] at hlen; simp at hlen; omega
    refine ⟨_, (pss_cons (ps_if (pt_val (pe_fn C_has_when hr (by rfl) (pa_cons (pv 0) pa_nil)))
        (pss_one (ps_ret (pe_tup (pa_cons pe_str (pa_cons (pe_fn C_read_sum hr (by rfl) (pa_cons (pe_slice sl_list (pv 0) po_none (po_some (pe_un un_neg pe_int))) pa_nil)) (pa_cons (pe_fn C_read_name hr (by rfl) (pa_cons (pe_ix ix_list (pv 0) (pe_un un_neg pe_int) (fun _ _ => rfl)) pa_nil)) pa_nil)))))) pss_nil)
      (pss_one (ps_ret (pe_tup (pa_cons pe_str (pa_cons (pe_fn C_read_sum hr (by rfl) (pa_cons (pv 0) pa_nil)) (pa_cons pe_non pa_nil))))))), ?_⟩
    cases z with
    | some x =>
      refine ⟨_, rfl, l, _, rfl, hl, .inl ⟨sumW ts, x, rfl, hne, ⟨_, rfl, iteT ?_⟩⟩⟩
      have hl' : H l = some (.lst ((sumW ts).map V.str ++ [V.str "when", V.str x])) := by rw [hl, List.map_append]; rfl
      refine ⟨_, rfl, _, rfl, _, rfl, l, _, rfl, SqL.of hl', fun d hd => ⟨d, ts, rfl, (by rw [upd_same]; exact congrArg (fun z => some (HO.lst z)) (cut_m2 ..)), hok, fun t H2 s2 ht => ?_⟩⟩
      have s3 := ((Same.refl H).new (o := .lst (cutV ((sumW ts).map V.str ++ [V.str "when", V.str x]) none (some (-2)))) hd).trans s2
      refine ⟨_, rfl, _, rfl, l, _, _, _, rfl, rfl, SqL.of (s3 _ _ hl'), (by rw [show (sumW ts).map V.str ++ [V.str "when", V.str x] = ((sumW ts).map V.str ++ [V.str "when"]) ++ [V.str x] by simp]; exact atI_last ..), x, rfl, hz x rfl, fun H4 s4 => ⟨(by show 3 ≤ sizeLine; decide), fun r hr => ?_⟩⟩
      exact q r _ ((s3.trans s4).new hr) ⟨t, upd_same, (ht.mono s4.tups).mono (Tups.new hr)⟩
    | none =>
      have hl' : H l = some (.lst ((sumW ts).map V.str)) := by rw [hl]; simp [whenW]
      have fin : ∃ (l' : Addr) (ts' : List (Int × Th)), ([V.ref l] : List V) = [.ref l'] ∧ H l' = some (.lst ((sumW ts').map V.str)) ∧ SumOk ts' ∧ ∀ (t : Addr) (H' : Hp), Same H H' → TermsAt H' t ts' → 3 ≤ sizeLine ∧ ∀ p, H' p = none → Q (.ref p) (upd H' p (.tup [.str "say", .ref t, .non])) :=
        ⟨l, ts, rfl, hl', hok, fun t H2 s2 ht => ⟨by decide, fun r hr => q r _ (s2.new hr) ⟨t, upd_same, ht.mono (Tups.new hr)⟩⟩⟩
      by_cases h1 : ts.length = 1
      · exact ⟨_, rfl, l, _, rfl, hl', .inr (.inl ⟨by omega, _, rfl, iteF ⟨_, rfl, fin⟩⟩)⟩
      · obtain ⟨us, p, e, hu⟩ := sumW_two (ts := ts) (by omega)
        exact ⟨_, rfl, l, _, rfl, hl', .inr (.inr ⟨us, _, _, e, hu, sgS_when _, _, rfl, iteF ⟨_, rfl, fin⟩⟩)⟩
theorem ok_read_ask (T : Txt K mg) : Cl P w K mg base 4 "read_ask" ["words"] spReadAsk := by
  have C_has_when := ok_has_when (P := P) (w := w) (base := base) T
  have C_read_name := ok_read_name (P := P) (w := w) (base := base) T
  have C_read_only_name := ok_read_only_name (P := P) (w := w) (base := base) T
  refine Cl.of T.d_read_ask sc_read_ask (fun vs H Q E h => ?_) (fun _ _ _ _ _ _ us hl => match us, hl with | [_], _ => rfl) (fun f cdv A outer s H vs Q E hr h => ?_)
  · obtain ⟨l, p, z, rfl, _⟩ := h
    rfl
  · obtain ⟨l, p, z, rfl, hl, ⟨hp, hz⟩, q⟩ := h
    refine ⟨_, (pss_cons (ps_if (pt_val (pe_fn C_has_when hr (by rfl) (pa_cons (pv 0) pa_nil)))
        (pss_one (ps_ret (pe_tup (pa_cons pe_str (pa_cons (pe_fn C_read_only_name hr (by rfl) (pa_cons (pe_slice sl_list (pv 0) po_none (po_some (pe_un un_neg pe_int))) pa_nil)) (pa_cons (pe_fn C_read_name hr (by rfl) (pa_cons (pe_ix ix_list (pv 0) (pe_un un_neg pe_int) (fun _ _ => rfl)) pa_nil)) pa_nil)))))) pss_nil)
      (pss_one (ps_ret (pe_tup (pa_cons pe_str (pa_cons (pe_fn C_read_only_name hr (by rfl) (pa_cons (pv 0) pa_nil)) (pa_cons pe_non pa_nil))))))), ?_⟩
    cases z with
    | some x =>
      refine ⟨_, rfl, l, [p, "when", x], rfl, hl, .inl ⟨[p], x, rfl, by simp, ⟨_, rfl, iteT ?_⟩⟩⟩
      have hl' : H l = some (.lst ([V.str p] ++ [V.str "when", V.str x])) := hl
      refine ⟨_, rfl, _, rfl, _, rfl, l, _, rfl, SqL.of hl', fun d hd => ⟨d, p, rfl, (by rw [upd_same]; exact congrArg (fun z => some (HO.lst z)) (cut_m2 ..)), hp, fun H2 s2 => ?_⟩⟩
      have s3 := ((Same.refl H).new (o := .lst (cutV ([V.str p] ++ [V.str "when", V.str x]) none (some (-2)))) hd).trans s2
      refine ⟨_, rfl, _, rfl, l, _, _, _, rfl, rfl, SqL.of (s3 _ _ hl'), (atI_last [V.str p, V.str "when"] (V.str x)), x, rfl, hz x rfl, fun H4 s4 => ⟨(by show 3 ≤ sizeLine; decide), fun r hr => ?_⟩⟩
      exact q r _ ((s3.trans s4).new hr) upd_same
    | none =>
      refine ⟨_, rfl, l, [p], rfl, hl, .inr (.inl ⟨by simp, _, rfl, iteF ⟨_, rfl, l, p, rfl, hl, hp, fun H2 s2 => ⟨(by show 3 ≤ sizeLine; decide), fun r hr => ?_⟩⟩⟩)⟩
      exact q r _ (s2.new hr) upd_same
theorem pairW_cut : ∀ (ps : List (Str × Str)) (i : Nat) (d : Str × Str), ps[i]? = some d → ((pairW ps).drop (3 * i)).take 3 = [d.1, "as", d.2]
  | [], i, d, h => by simp at h
  | (g, o) :: r, 0, d, h => by
    have e : (g, o) = d := by simpa using h
    subst e
    rfl
  | (g, o) :: r, i + 1, d, h => by
    have ih := pairW_cut r i d (by simpa using h)
    show ((g :: "as" :: o :: pairW r).drop (3 * (i + 1))).take 3 = _
    rw [show 3 * (i + 1) = 3 * i + 1 + 1 + 1 by omega]
    simpa using ih
theorem ok_read_bring (T : Txt K mg) : Cl P w K mg base 4 "read_bring" ["words"] spReadBring := by
  have C_read_name := ok_read_name (P := P) (w := w) (base := base) T
  have C_read_pair := ok_read_pair (P := P) (w := w) (base := base) T
  refine Cl.of T.d_read_bring sc_read_bring (fun vs H Q E h => ?_) (fun _ _ _ _ _ _ us hl => match us, hl with | [_], _ => rfl) (fun f cdv A outer s H vs Q E hr h => ?_)
  · obtain ⟨l, p, ps, rfl, _⟩ := h
    rfl
  · obtain ⟨l, p, ps, rfl, hl, ⟨hp, hps, hpn⟩, q⟩ := h
    have hlen : (((p :: pairW ps).map V.str).length : Int) = ((3 * ps.length + 1 : Nat) : Int) := by rw [List.length_map, List.length_cons, pairW_len]
    refine ⟨_, (pss_cons (ps_if (PW.pt (pw_or (pt_cmpR op_ne (pe_op op_mod (pe_callB call_len_seq (by rfl) T.n_len PySem.boot_len (pa_cons (pv 0) pa_nil)) pe_int) pe_int (nomark _)) (pw_or1 (pt_cmpR op_gt (pe_callB call_len_seq (by rfl) T.n_len PySem.boot_len (pa_cons (pv 0) pa_nil)) (pe_op op_add pe_int (pe_op op_mul pe_int (pe_globS T.g_MOST_PAIRS (by rfl)))) (nomark _)))))
        (pss_one ps_never) pss_nil)
      (pss_cons (ps_setC (j := 1) (M := ["k", "words"]) (ρ := [none, some 0]) (defScope s_read_bring) ["words", "pairs"] ⟨rfl, by decide +kernel, by decide +kernel, by decide +kernel, rfl, by decide +kernel, by decide +kernel⟩ sc_read_bring.nd rfl (Or.inl rfl) (pi_range3 (by rfl) T.n_range (pa_cons pe_int (pa_cons (pe_callB call_len_seq (by rfl) T.n_len PySem.boot_len (pa_cons (pv 0) pa_nil)) (pa_cons pe_int pa_nil)))) (fun _ _ _ _ _ _ => (pg_name (i := 0) (show (["k", "words"] : List Str).Nodup by decide +kernel) rfl (Or.inl rfl))) (fun _ _ _ _ _ _ => pts_nil) (fun _ _ _ _ _ _ => (pe_fn C_read_pair hr (by rfl) (pa_cons (pe_slice (sl_listK (K := K) rfl) (pv 1) (po_some (pv 0)) (po_some (pe_op op_add (pv 0) pe_int))) pa_nil))))
      (pss_one (ps_ret (pe_tup (pa_cons pe_str (pa_cons (pe_fn C_read_name hr (by rfl) (pa_cons (pe_ix ix_list (pv 0) pe_int (fun _ _ => rfl)) pa_nil)) (pa_cons (pe_callTy call_tuple_of (by rfl) T.n_tuple boot_tuple (pa_cons (pv 1) pa_nil)) pa_nil)))))))), ?_⟩
    refine ⟨_, rfl, l, _, rfl, .inl (SqL.of hl), _, _, rfl, rfl, (by show (0 : Int) < 3; decide), rfl, _, rfl, ?_⟩
    rw [hlen]
    refine iteNS (show V.int (((3 * ps.length + 1 : Nat) : Int) % 3) = V.int 1 from congrArg V.int (by omega)) ?_
    refine ⟨_, rfl, l, _, rfl, .inl (SqL.of hl), _, _, rfl, rfl, .inl ⟨by decide, by decide⟩, _, _, rfl, rfl, _, _, rfl, rfl, _, rfl, ?_⟩
    rw [hlen]
    refine iteDN (by omega) ?_
    refine ⟨_, rfl, l, _, rfl, .inl (SqL.of hl), 1, _, 3, rfl, ⟨by decide, by decide, by rw [hlen]; omega, by rw [hlen]; omega, by decide, by decide⟩, fun D hD => ?_⟩
    have hn : (Builtin.Range.rangeSize 1 ((3 * ps.length + 1 : Nat) : Int) 3).toNat = ps.length := rsize (c := 3) (by decide)
    rw [hlen, hn]
    refine comp_by ps.length (fun i σ H2 => ∃ (v0 : Option V) (vs : List V), σ = [v0, some (.ref l)] ∧ Same H H2 ∧ H2 D = some (.lst vs) ∧ Pairs H2 vs (ps.take i)) ⟨_, [], rfl, (Same.refl H).new hD, upd_same, .nil⟩ ?_ ?_
    · rintro i σ H2 hi ⟨v0, vs, rfl, s2, hD2, hP⟩
      refine ⟨hi, ?_⟩
      rintro v H3 ⟨rfl, rfl⟩
      refine ntG ?_
      obtain ⟨d, hd⟩ : ∃ d, ps[i]? = some d := ⟨ps[i], by simp⟩
      have hdm := hpn d (List.mem_of_getElem? hd)
      have hvl : vs.length = i := by rw [Paired.length hP, List.length_take]; omega
      refine ⟨_, rfl, _, rfl, _, rfl, _, rfl, _, _, rfl, rfl, _, rfl, l, _, rfl, SqL.of (s2 _ _ hl), fun a ha => ?_⟩
      refine ⟨a, d.1, d.2, rfl, ?_, hdm.1, hdm.2, fun b H4 s4 hb => ?_⟩
      · rw [upd_same, show (1 : Int) + i * 3 = ((3 * i + 1 : Nat) : Int) by omega, show ((3 * i + 1 : Nat) : Int) + 3 = ((3 * i + 4 : Nat) : Int) by omega, cut_mid _ _ _ (by omega) (by rw [List.length_map, List.length_cons, pairW_len]; omega)]
        refine congrArg (fun z => some (HO.lst z)) ?_
        rw [show 3 * i + 4 - (3 * i + 1) = 3 by omega, List.map_cons, List.drop_succ_cons, ← List.map_drop, ← List.map_take, pairW_cut ps i d hd]
        rfl
      · have hD3 := upd_keep (o := .lst (cutV ((p :: pairW ps).map V.str) (some (1 + i * 3)) (some (1 + i * 3 + 3)))) hD2 ha
        have hD4 := s4 _ _ hD3
        refine ⟨vs, hD4, small1000 (by omega), _, vs ++ [.ref b], rfl, ((s2.new ha).trans s4).put hD, upd_same, ?_⟩
        rw [take_succ_get hd]
        refine Paired.snoc (((hP.mono (Tups.new ha)).mono s4.tups).mono (Tups.lst hD4)) ⟨b, rfl, ?_, hdm.1, hdm.2⟩
        rw [upd_ne (ne_of hb hD4 (by intro z; cases z))]
        exact hb
    · rintro σ H2 ⟨v0, vs, rfl, s2, hD2, hP⟩
      refine ⟨Nat.le_refl _, ?_⟩
      rw [List.take_length] at hP
      refine ⟨_, rfl, l, _, _, _, rfl, rfl, SqL.of (s2 _ _ hl), atI_nat (j := 0) (v := .str p) rfl, p, rfl, hp, fun H4 s4 => ?_⟩
      refine ⟨_, rfl, D, _, rfl, .inl ⟨SqL.of (s4 _ _ hD2), fun t gt => ⟨(by show 3 ≤ sizeLine; decide), fun r gr => ?_⟩⟩⟩
      exact q r _ (((s2.trans s4).new gt).new gr) ⟨t, upd_same, ⟨vs, upd_keep upd_same gr, ((hP.mono s4.tups).mono (Tups.new gt)).mono (Tups.new gr)⟩, hps⟩
theorem ok_read_row (T : Txt K mg) : Cl P w K mg base 6 "read_row" ["text"] spReadRow := by
  have C_read_bring := ok_read_bring (P := P) (w := w) (base := base) T
  have C_read_pair := ok_read_pair (P := P) (w := w) (base := base) T
  have C_read_set := ok_read_set (P := P) (w := w) (base := base) T
  have C_read_say := ok_read_say (P := P) (w := w) (base := base) T
  have C_read_sum := ok_read_sum (P := P) (w := w) (base := base) T
  have C_read_ask := ok_read_ask (P := P) (w := w) (base := base) T
  have C_read_only_name := ok_read_only_name (P := P) (w := w) (base := base) T
  refine Cl.of T.d_read_row sc_read_row (fun vs H Q E h => ?_) (fun _ _ _ _ _ _ us hl => match us, hl with | [_], _ => rfl) (fun f cdv A outer s H vs Q E hr h => ?_)
  · obtain ⟨rw, rfl, _⟩ := h
    rfl
  · obtain ⟨rw, rfl, hok, q⟩ := h
    have hw := hok.words
    refine ⟨_, (pss_cons (ps_set (i := 1) sc_read_row.nd rfl (Or.inl rfl) (pe_bm PySem.F.plainAttrs_str PySem.F.slot_str_split PySem.F.type_str_split mt_split (pv 0) (pa_cons pe_str pa_nil)))
      (pss_cons (ps_set (i := 2) sc_read_row.nd rfl (Or.inl rfl) (pe_ix ix_list (pv 1) pe_int (fun _ _ => rfl)))
      (pss_cons (ps_set (i := 3) sc_read_row.nd rfl (Or.inl rfl) (pe_slice sl_list (pv 1) (po_some pe_int) po_none))
      (pss_cons (ps_if (pt_cmpR op_eq (pv 2) pe_str (nomark _))
        (pss_one (ps_ret (pe_fn C_read_bring hr (by rfl) (pa_cons (pv 3) pa_nil)))) pss_nil)
      (pss_cons (ps_if (pt_cmpR op_eq (pv 2) pe_str (nomark _))
        (pss_one (ps_ret (pe_op op_catA (pe_tup (pa_cons pe_str pa_nil)) (pe_fn C_read_pair hr (by rfl) (pa_cons (pv 3) pa_nil))))) pss_nil)
      (pss_cons (ps_if (pt_cmpR op_eq (pv 2) pe_str (nomark _))
        (pss_one (ps_ret (pe_fn C_read_set hr (by rfl) (pa_cons (pv 3) pa_nil)))) pss_nil)
      (pss_cons (ps_if (pt_cmpR op_eq (pv 2) pe_str (nomark _))
        (pss_one (ps_ret (pe_fn C_read_say hr (by rfl) (pa_cons (pv 3) pa_nil)))) pss_nil)
      (pss_cons (ps_if (pt_cmpR op_eq (pv 2) pe_str (nomark _))
        (pss_one (ps_ret (pe_tup (pa_cons pe_str (pa_cons (pe_fn C_read_sum hr (by rfl) (pa_cons (pv 3) pa_nil)) pa_nil))))) pss_nil)
      (pss_cons (ps_if (pt_cmpR op_eq (pv 2) pe_str (nomark _))
        (pss_one (ps_ret (pe_fn C_read_ask hr (by rfl) (pa_cons (pv 3) pa_nil)))) pss_nil)
      (pss_cons (ps_if (pt_cmpR op_in_seq (pv 2) (pe_tup (pa_cons pe_str (pa_cons pe_str (pa_cons pe_str pa_nil)))) (by with_unfolding_all rfl))
        (pss_one (ps_ret (pe_tup (pa_cons (pv 2) (pa_cons (pe_fn C_read_only_name hr (by rfl) (pa_cons (pv 3) pa_nil)) pa_nil))))) pss_nil)
      (pss_one ps_never))))))))))), ?_⟩
    refine ⟨_, rfl, rfl, _, _, rfl, rfl, (by decide +kernel), (by have := join_len hw; omega), fun l hl => ?_⟩
    rw [split_words hw]
    cases rw with
    | bring p ps =>
      refine ⟨_, rfl, l, _, _, _, rfl, rfl, SqL.of upd_same, atI_nat (j := 0) (v := .str "bring") rfl, ?_⟩
      refine ⟨_, rfl, _, rfl, l, _, rfl, SqL.of upd_same, fun d hd => ?_⟩
      have s1 := ((Same.refl H).new (o := .lst ((rowW (.bring p ps)).map V.str)) hl).new (o := .lst (cutV ((rowW (.bring p ps)).map V.str) (some 1) none)) hd
      have hd1 : upd (upd H l (.lst ((rowW (.bring p ps)).map V.str))) d (.lst (cutV ((rowW (.bring p ps)).map V.str) (some 1) none)) d = some (.lst ((rowW (.bring p ps)).tail.map V.str)) := by
        rw [upd_same]
        exact congrArg (fun z => some (HO.lst z)) (cut_from _ 1 (by simp [rowW]))
      generalize upd (upd H l (.lst ((rowW (.bring p ps)).map V.str))) d (.lst (cutV ((rowW (.bring p ps)).map V.str) (some 1) none)) = H1 at s1 hd1 ⊢
      refine ⟨_, rfl, rfl, _, rfl, iteSE ?_⟩
      exact ⟨_, rfl, d, p, ps, rfl, hd1, hok, fun r H2 s2 hr => q r H2 (s1.trans s2) hr⟩
    | give o g =>
      refine ⟨_, rfl, l, _, _, _, rfl, rfl, SqL.of upd_same, atI_nat (j := 0) (v := .str "give") rfl, ?_⟩
      refine ⟨_, rfl, _, rfl, l, _, rfl, SqL.of upd_same, fun d hd => ?_⟩
      have s1 := ((Same.refl H).new (o := .lst ((rowW (.give o g)).map V.str)) hl).new (o := .lst (cutV ((rowW (.give o g)).map V.str) (some 1) none)) hd
      have hd1 : upd (upd H l (.lst ((rowW (.give o g)).map V.str))) d (.lst (cutV ((rowW (.give o g)).map V.str) (some 1) none)) d = some (.lst ((rowW (.give o g)).tail.map V.str)) := by
        rw [upd_same]
        exact congrArg (fun z => some (HO.lst z)) (cut_from _ 1 (by simp [rowW]))
      generalize upd (upd H l (.lst ((rowW (.give o g)).map V.str))) d (.lst (cutV ((rowW (.give o g)).map V.str) (some 1) none)) = H1 at s1 hd1 ⊢
      refine ⟨_, rfl, rfl, _, rfl, iteSN (by decide +kernel) ?_⟩
      refine ⟨_, rfl, rfl, _, rfl, iteSE ?_⟩
      refine ⟨(by show 1 ≤ sizeLine; decide), fun a ha => ⟨_, rfl, d, o, g, rfl, upd_keep hd1 ha, hok.1, hok.2, fun b H2 s2 hb => ?_⟩⟩
      exact ⟨a, b, _, _, rfl, rfl, SqT.of (s2 _ _ upd_same), SqT.of hb, (by show 1 + 2 ≤ sizeLine; decide), (fun z => by cases z), (fun _ z => by cases z), fun _ _ r hr => q r _ (((s1.new ha).trans s2).new hr) upd_same⟩
    | set o ts =>
      refine ⟨_, rfl, l, _, _, _, rfl, rfl, SqL.of upd_same, atI_nat (j := 0) (v := .str "set") rfl, ?_⟩
      refine ⟨_, rfl, _, rfl, l, _, rfl, SqL.of upd_same, fun d hd => ?_⟩
      have s1 := ((Same.refl H).new (o := .lst ((rowW (.set o ts)).map V.str)) hl).new (o := .lst (cutV ((rowW (.set o ts)).map V.str) (some 1) none)) hd
      have hd1 : upd (upd H l (.lst ((rowW (.set o ts)).map V.str))) d (.lst (cutV ((rowW (.set o ts)).map V.str) (some 1) none)) d = some (.lst ((rowW (.set o ts)).tail.map V.str)) := by
        rw [upd_same]
        exact congrArg (fun z => some (HO.lst z)) (cut_from _ 1 (by simp [rowW]))
      generalize upd (upd H l (.lst ((rowW (.set o ts)).map V.str))) d (.lst (cutV ((rowW (.set o ts)).map V.str) (some 1) none)) = H1 at s1 hd1 ⊢
      refine ⟨_, rfl, rfl, _, rfl, iteSN (by decide +kernel) ?_⟩
      refine ⟨_, rfl, rfl, _, rfl, iteSN (by decide +kernel) ?_⟩
      refine ⟨_, rfl, rfl, _, rfl, iteSE ?_⟩
      exact ⟨_, rfl, d, o, ts, rfl, hd1, hok, fun r H2 s2 hr => q r H2 (s1.trans s2) hr⟩
    | take o =>
      refine ⟨_, rfl, l, _, _, _, rfl, rfl, SqL.of upd_same, atI_nat (j := 0) (v := .str "take") rfl, ?_⟩
      refine ⟨_, rfl, _, rfl, l, _, rfl, SqL.of upd_same, fun d hd => ?_⟩
      have s1 := ((Same.refl H).new (o := .lst ((rowW (.take o)).map V.str)) hl).new (o := .lst (cutV ((rowW (.take o)).map V.str) (some 1) none)) hd
      have hd1 : upd (upd H l (.lst ((rowW (.take o)).map V.str))) d (.lst (cutV ((rowW (.take o)).map V.str) (some 1) none)) d = some (.lst ((rowW (.take o)).tail.map V.str)) := by
        rw [upd_same]
        exact congrArg (fun z => some (HO.lst z)) (cut_from _ 1 (by simp [rowW]))
      generalize upd (upd H l (.lst ((rowW (.take o)).map V.str))) d (.lst (cutV ((rowW (.take o)).map V.str) (some 1) none)) = H1 at s1 hd1 ⊢
      refine ⟨_, rfl, rfl, _, rfl, iteSN (by decide +kernel) ?_⟩
      refine ⟨_, rfl, rfl, _, rfl, iteSN (by decide +kernel) ?_⟩
      refine ⟨_, rfl, rfl, _, rfl, iteSN (by decide +kernel) ?_⟩
      refine ⟨_, rfl, rfl, _, rfl, iteSN (by decide +kernel) ?_⟩
      refine ⟨_, rfl, rfl, _, rfl, iteSN (by decide +kernel) ?_⟩
      refine ⟨_, rfl, rfl, _, rfl, iteSN (by decide +kernel) ?_⟩
      refine ⟨_, rfl, (by show 3 ≤ sizeLine; decide), fun a ha => ⟨a, _, rfl, .inr (SqT.of upd_same), rfl, rfl, _, rfl, ?_⟩⟩
      rw [show (if false = true then !inV (V.str "take") [V.str "take", V.str "part", V.str "do"] else inV (V.str "take") [V.str "take", V.str "part", V.str "do"]) = true by decide +kernel]
      refine iteT ⟨_, rfl, _, rfl, d, o, rfl, upd_keep hd1 ha, hok, fun H2 s2 => ⟨(by show 2 ≤ sizeLine; decide), fun r hr => ?_⟩⟩
      exact q r _ (((s1.new ha).trans s2).new hr) upd_same
    | say ts z =>
      refine ⟨_, rfl, l, _, _, _, rfl, rfl, SqL.of upd_same, atI_nat (j := 0) (v := .str "say") rfl, ?_⟩
      refine ⟨_, rfl, _, rfl, l, _, rfl, SqL.of upd_same, fun d hd => ?_⟩
      have s1 := ((Same.refl H).new (o := .lst ((rowW (.say ts z)).map V.str)) hl).new (o := .lst (cutV ((rowW (.say ts z)).map V.str) (some 1) none)) hd
      have hd1 : upd (upd H l (.lst ((rowW (.say ts z)).map V.str))) d (.lst (cutV ((rowW (.say ts z)).map V.str) (some 1) none)) d = some (.lst ((rowW (.say ts z)).tail.map V.str)) := by
        rw [upd_same]
        exact congrArg (fun z => some (HO.lst z)) (cut_from _ 1 (by simp [rowW]))
      generalize upd (upd H l (.lst ((rowW (.say ts z)).map V.str))) d (.lst (cutV ((rowW (.say ts z)).map V.str) (some 1) none)) = H1 at s1 hd1 ⊢
      refine ⟨_, rfl, rfl, _, rfl, iteSN (by decide +kernel) ?_⟩
      refine ⟨_, rfl, rfl, _, rfl, iteSN (by decide +kernel) ?_⟩
      refine ⟨_, rfl, rfl, _, rfl, iteSN (by decide +kernel) ?_⟩
      refine ⟨_, rfl, rfl, _, rfl, iteSE ?_⟩
      exact ⟨_, rfl, d, ts, z, rfl, hd1, hok, fun r H2 s2 hr => q r H2 (s1.trans s2) hr⟩
    | need ts =>
      refine ⟨_, rfl, l, _, _, _, rfl, rfl, SqL.of upd_same, atI_nat (j := 0) (v := .str "need") rfl, ?_⟩
      refine ⟨_, rfl, _, rfl, l, _, rfl, SqL.of upd_same, fun d hd => ?_⟩
      have s1 := ((Same.refl H).new (o := .lst ((rowW (.need ts)).map V.str)) hl).new (o := .lst (cutV ((rowW (.need ts)).map V.str) (some 1) none)) hd
      have hd1 : upd (upd H l (.lst ((rowW (.need ts)).map V.str))) d (.lst (cutV ((rowW (.need ts)).map V.str) (some 1) none)) d = some (.lst ((rowW (.need ts)).tail.map V.str)) := by
        rw [upd_same]
        exact congrArg (fun z => some (HO.lst z)) (cut_from _ 1 (by simp [rowW]))
      generalize upd (upd H l (.lst ((rowW (.need ts)).map V.str))) d (.lst (cutV ((rowW (.need ts)).map V.str) (some 1) none)) = H1 at s1 hd1 ⊢
      refine ⟨_, rfl, rfl, _, rfl, iteSN (by decide +kernel) ?_⟩
      refine ⟨_, rfl, rfl, _, rfl, iteSN (by decide +kernel) ?_⟩
      refine ⟨_, rfl, rfl, _, rfl, iteSN (by decide +kernel) ?_⟩
      refine ⟨_, rfl, rfl, _, rfl, iteSN (by decide +kernel) ?_⟩
      refine ⟨_, rfl, rfl, _, rfl, iteSE ?_⟩
      refine ⟨_, rfl, d, ts, rfl, hd1, hok, fun t H2 s2 ht => ⟨(by show 2 ≤ sizeLine; decide), fun r hr => ?_⟩⟩
      exact q r _ ((s1.trans s2).new hr) ⟨t, upd_same, ht.mono (Tups.new hr)⟩
    | ask p z =>
      refine ⟨_, rfl, l, _, _, _, rfl, rfl, SqL.of upd_same, atI_nat (j := 0) (v := .str "ask") rfl, ?_⟩
      refine ⟨_, rfl, _, rfl, l, _, rfl, SqL.of upd_same, fun d hd => ?_⟩
      have s1 := ((Same.refl H).new (o := .lst ((rowW (.ask p z)).map V.str)) hl).new (o := .lst (cutV ((rowW (.ask p z)).map V.str) (some 1) none)) hd
      have hd1 : upd (upd H l (.lst ((rowW (.ask p z)).map V.str))) d (.lst (cutV ((rowW (.ask p z)).map V.str) (some 1) none)) d = some (.lst ((rowW (.ask p z)).tail.map V.str)) := by
        rw [upd_same]
        exact congrArg (fun z => some (HO.lst z)) (cut_from _ 1 (by simp [rowW]))
      generalize upd (upd H l (.lst ((rowW (.ask p z)).map V.str))) d (.lst (cutV ((rowW (.ask p z)).map V.str) (some 1) none)) = H1 at s1 hd1 ⊢
      refine ⟨_, rfl, rfl, _, rfl, iteSN (by decide +kernel) ?_⟩
      refine ⟨_, rfl, rfl, _, rfl, iteSN (by decide +kernel) ?_⟩
      refine ⟨_, rfl, rfl, _, rfl, iteSN (by decide +kernel) ?_⟩
      refine ⟨_, rfl, rfl, _, rfl, iteSN (by decide +kernel) ?_⟩
      refine ⟨_, rfl, rfl, _, rfl, iteSN (by decide +kernel) ?_⟩
      refine ⟨_, rfl, rfl, _, rfl, iteSE ?_⟩
      exact ⟨_, rfl, d, p, z, rfl, hd1, hok, fun r H2 s2 hr => q r H2 (s1.trans s2) hr⟩
    | part o =>
      refine ⟨_, rfl, l, _, _, _, rfl, rfl, SqL.of upd_same, atI_nat (j := 0) (v := .str "part") rfl, ?_⟩
      refine ⟨_, rfl, _, rfl, l, _, rfl, SqL.of upd_same, fun d hd => ?_⟩
      have s1 := ((Same.refl H).new (o := .lst ((rowW (.part o)).map V.str)) hl).new (o := .lst (cutV ((rowW (.part o)).map V.str) (some 1) none)) hd
      have hd1 : upd (upd H l (.lst ((rowW (.part o)).map V.str))) d (.lst (cutV ((rowW (.part o)).map V.str) (some 1) none)) d = some (.lst ((rowW (.part o)).tail.map V.str)) := by
        rw [upd_same]
        exact congrArg (fun z => some (HO.lst z)) (cut_from _ 1 (by simp [rowW]))
      generalize upd (upd H l (.lst ((rowW (.part o)).map V.str))) d (.lst (cutV ((rowW (.part o)).map V.str) (some 1) none)) = H1 at s1 hd1 ⊢
      refine ⟨_, rfl, rfl, _, rfl, iteSN (by decide +kernel) ?_⟩
      refine ⟨_, rfl, rfl, _, rfl, iteSN (by decide +kernel) ?_⟩
      refine ⟨_, rfl, rfl, _, rfl, iteSN (by decide +kernel) ?_⟩
      refine ⟨_, rfl, rfl, _, rfl, iteSN (by decide +kernel) ?_⟩
      refine ⟨_, rfl, rfl, _, rfl, iteSN (by decide +kernel) ?_⟩
      refine ⟨_, rfl, rfl, _, rfl, iteSN (by decide +kernel) ?_⟩
      refine ⟨_, rfl, (by show 3 ≤ sizeLine; decide), fun a ha => ⟨a, _, rfl, .inr (SqT.of upd_same), rfl, rfl, _, rfl, ?_⟩⟩
      rw [show (if false = true then !inV (V.str "part") [V.str "take", V.str "part", V.str "do"] else inV (V.str "part") [V.str "take", V.str "part", V.str "do"]) = true by decide +kernel]
      refine iteT ⟨_, rfl, _, rfl, d, o, rfl, upd_keep hd1 ha, hok, fun H2 s2 => ⟨(by show 2 ≤ sizeLine; decide), fun r hr => ?_⟩⟩
      exact q r _ (((s1.new ha).trans s2).new hr) upd_same
    | doo o =>
      refine ⟨_, rfl, l, _, _, _, rfl, rfl, SqL.of upd_same, atI_nat (j := 0) (v := .str "do") rfl, ?_⟩
      refine ⟨_, rfl, _, rfl, l, _, rfl, SqL.of upd_same, fun d hd => ?_⟩
      have s1 := ((Same.refl H).new (o := .lst ((rowW (.doo o)).map V.str)) hl).new (o := .lst (cutV ((rowW (.doo o)).map V.str) (some 1) none)) hd
      have hd1 : upd (upd H l (.lst ((rowW (.doo o)).map V.str))) d (.lst (cutV ((rowW (.doo o)).map V.str) (some 1) none)) d = some (.lst ((rowW (.doo o)).tail.map V.str)) := by
        rw [upd_same]
        exact congrArg (fun z => some (HO.lst z)) (cut_from _ 1 (by simp [rowW]))
      generalize upd (upd H l (.lst ((rowW (.doo o)).map V.str))) d (.lst (cutV ((rowW (.doo o)).map V.str) (some 1) none)) = H1 at s1 hd1 ⊢
      refine ⟨_, rfl, rfl, _, rfl, iteSN (by decide +kernel) ?_⟩
      refine ⟨_, rfl, rfl, _, rfl, iteSN (by decide +kernel) ?_⟩
      refine ⟨_, rfl, rfl, _, rfl, iteSN (by decide +kernel) ?_⟩
      refine ⟨_, rfl, rfl, _, rfl, iteSN (by decide +kernel) ?_⟩
      refine ⟨_, rfl, rfl, _, rfl, iteSN (by decide +kernel) ?_⟩
      refine ⟨_, rfl, rfl, _, rfl, iteSN (by decide +kernel) ?_⟩
      refine ⟨_, rfl, (by show 3 ≤ sizeLine; decide), fun a ha => ⟨a, _, rfl, .inr (SqT.of upd_same), rfl, rfl, _, rfl, ?_⟩⟩
      rw [show (if false = true then !inV (V.str "do") [V.str "take", V.str "part", V.str "do"] else inV (V.str "do") [V.str "take", V.str "part", V.str "do"]) = true by decide +kernel]
      refine iteT ⟨_, rfl, _, rfl, d, o, rfl, upd_keep hd1 ha, hok, fun H2 s2 => ⟨(by show 2 ≤ sizeLine; decide), fun r hr => ?_⟩⟩
      exact q r _ (((s1.new ha).trans s2).new hr) upd_same
def valR : List Nat → Nat
  | [] => 0
  | c :: r => valR r * 10 + (c - 48)
theorem valR_pos : ∀ r : List Nat, r ≠ [] → (∀ c ∈ r, 48 ≤ c ∧ c ≤ 57) → r.getLast? ≠ some 48 → 1 ≤ valR r
  | [], h, _, _ => absurd rfl h
  | [c], _, hf, h => by
    have h1 := hf c List.mem_cons_self
    have : c ≠ 48 := fun z => h (by rw [z]; rfl)
    show 1 ≤ 0 * 10 + (c - 48)
    omega
  | c :: d :: r, _, hf, h => by
    have := valR_pos (d :: r) (by simp) (fun x hx => hf x (List.mem_cons_of_mem _ hx)) (by rw [List.getLast?_cons_cons] at h; exact h)
    show 1 ≤ valR (d :: r) * 10 + (c - 48)
    omega
theorem digitC : ∀ d : Nat, d < 10 → (Nat.digitChar d).toNat = 48 + d := by decide
theorem digits_valR : ∀ r : List Nat, r ≠ [] → (∀ c ∈ r, 48 ≤ c ∧ c ≤ 57) → (1 < r.length → r.getLast? ≠ some 48) → (Nat.toDigits 10 (valR r)).map Char.toNat = r.reverse
  | [], h, _, _ => absurd rfl h
  | [c], _, hf, _ => by
    have h1 := hf c List.mem_cons_self
    have e : valR [c] = c - 48 := by show 0 * 10 + (c - 48) = _; omega
    rw [e, Nat.toDigits_of_lt_base (by omega)]
    show [(Nat.digitChar (c - 48)).toNat] = [c]
    rw [digitC _ (by omega)]
    congr 1
    omega
  | c :: d :: r, _, hf, h => by
    have h1 := hf c List.mem_cons_self
    have hl := h (by simp)
    rw [List.getLast?_cons_cons] at hl
    have hf' : ∀ x ∈ d :: r, 48 ≤ x ∧ x ≤ 57 := fun x hx => hf x (List.mem_cons_of_mem _ hx)
    have h2 := valR_pos (d :: r) (by simp) hf' hl
    have ih := digits_valR (d :: r) (by simp) hf' fun _ => hl
    have e : valR (c :: d :: r) = valR (d :: r) * 10 + (c - 48) := rfl
    rw [e, Nat.toDigits_of_base_le (by decide) (by omega), List.map_append, show (valR (d :: r) * 10 + (c - 48)) / 10 = valR (d :: r) by omega, show (valR (d :: r) * 10 + (c - 48)) % 10 = c - 48 by omega, ih]
    show (d :: r).reverse ++ [(Nat.digitChar (c - 48)).toNat] = _
    rw [digitC _ (by omega), show 48 + (c - 48) = c by omega, List.reverse_cons (a := c)]
theorem valR_lt : ∀ r : List Nat, (∀ c ∈ r, 48 ≤ c ∧ c ≤ 57) → valR r < 10 ^ r.length
  | [], _ => by decide
  | c :: r, h => by
    have h1 := valR_lt r fun x hx => h x (List.mem_cons_of_mem _ hx)
    have h2 := h c List.mem_cons_self
    show valR r * 10 + (c - 48) < 10 ^ (r.length + 1)
    rw [Nat.pow_succ]
    omega
theorem num_of {x : Str} (h : isNumL x.cps.toList = true) : ∃ n : Int, ThOk (.num n) ∧ thS (.num n) = x := by
  unfold isNumL at h
  simp only [Bool.and_eq_true, decide_eq_true_eq, List.all_eq_true, Bool.not_eq_true', Bool.and_eq_false_iff, decide_eq_false_iff_not] at h
  obtain ⟨⟨⟨h1, h60⟩, hz⟩, hf⟩ := h
  have hf' : ∀ c ∈ x.cps.toList.reverse, 48 ≤ c ∧ c ≤ 57 := fun c hc => by
    have := hf c (List.mem_reverse.mp hc)
    unfold isFig at this
    simpa using this
  have hlast : 1 < x.cps.toList.reverse.length → x.cps.toList.reverse.getLast? ≠ some 48 := fun hl e => by
    rw [List.getLast?_reverse] at e
    rw [List.length_reverse] at hl
    rcases hz with z | z
    · exact z e
    · have z' : x.cps.toList = [48] := by simpa using z
      rw [z'] at hl
      simp at hl
  have hd := digits_valR x.cps.toList.reverse (fun z => by have := congrArg List.length z; rw [List.length_reverse] at this; simp at this; rw [this] at h1; simp at h1) hf' hlast
  have hlt := valR_lt x.cps.toList.reverse hf'
  have hlt2 : valR x.cps.toList.reverse < 10 ^ 60 := Nat.lt_of_lt_of_le hlt (Nat.pow_le_pow_right (by decide) (by rw [List.length_reverse]; exact h60))
  rw [List.reverse_reverse] at hd
  generalize valR x.cps.toList.reverse = v at hd hlt2
  have h0 : (0 : Int) ≤ (v : Int) := by omega
  have hv : (v : Int) < 10 ^ 60 := by
    have : ((10 ^ 60 : Nat) : Int) = 10 ^ 60 := by norm_cast
    omega
  refine ⟨(v : Int), ⟨h0, hv⟩, str_ext ?_⟩
  have := (num_text h0 hv).1
  rw [show ((v : Int)).toNat = v by omega, hd] at this
  exact this
def Ref (A : Adr) (H : Hp) (E : XK) : Prop := ∀ (H' : Hp) (dx : Addr), Same H H' → H' dx = some (.xd [("number", .int 0)]) → E (.ref A.NoRow) (some dx) H'
theorem Ref.on {A : Adr} {H H1 : Hp} {E : XK} (h : Ref A H E) (s : Same H H1) : Ref A H1 E := fun H' dx s' hd => h H' dx (s.trans s') hd
theorem Ref.rais {A : Adr} {H : Hp} {E : XK} (h : Ref A H E) : ∃ v, [V.int 0] = [v] ∧ ∀ dx, H dx = none → E (.ref A.NoRow) (some dx) (upd H dx (.xd [("number", v)])) := ⟨_, rfl, fun dx hd => h _ dx ((Same.refl H).new hd) upd_same⟩
theorem ok_initN {A : Adr} (hX : XTxt K mg A) : XCl P w K mg base 1 A.NoRow "number" ["self", "number"] := by
  refine XCl.of hX.x_NoRow sc_NoRow___init__ rfl (fun _ _ _ _ _ _ us hl => match us, hl with | [_, _], _ => rfl) (fun f' cdv A0 outer s H vs Q E xi hr h => ?_)
  obtain ⟨e, v, rfl, he, q⟩ := h
  refine ⟨_, (pss_cons (ps_initB (by rfl) hX.m_BundleError hX.b_BundleError (pa_cons (pv 0) (pa_cons (pv 1) pa_nil)))
      (pss_one (ps_fldX (pv 0) (pv 1) rfl))), ?_⟩
  exact ⟨_, rfl, _, rfl, e, A.NoRow, f', v, rfl, he, xi, _, rfl, _, rfl, e, A.NoRow, rfl, he, hX.k_NoRow, hX.f_NoRow, fun dx hdx => q dx hdx⟩
def Wok (ws : List Str) : Prop := ws.length ≤ 900 ∧ ∀ x ∈ ws, x.length ≤ 900
def spNameE (A : Adr) : Sp := fun vs H Q E => ∃ x : Str, vs = [.str x] ∧ x.length ≤ 900 ∧ (NameOk x → ∀ H', Same H H' → Q (.str x) H') ∧ Ref A H E
theorem ok_nameE (T : Txt K mg) {A : Adr} (hX : XTxt K mg A) : L2.ClE P w K mg base 3 "read_name" ["word"] (spNameE A) := by
  have C_is_name := ok_is_name (P := P) (w := w) (base := base) T
  have X_NoRow := ok_initN (P := P) (w := w) (base := base) hX
  refine ClE.of T.d_read_name sc_read_name (fun vs H Q E h => ?_) (fun _ _ _ _ _ _ us hl => match us, hl with | [_], _ => rfl) (fun f cdv A0 outer s H vs Q E hr h => ?_)
  · obtain ⟨x, rfl, _⟩ := h
    rfl
  · obtain ⟨x, rfl, hx, q, hE⟩ := h
    refine ⟨_, (pss_cons (ps_if (pt_not (pt_val (pe_fn C_is_name hr (by rfl) (pa_cons (pv 0) pa_nil))))
        (pss_one (ps_raise1 X_NoRow hr (by rfl) hX.m_NoRow hX.k_NoRow (pa_cons pe_int pa_nil))) pss_nil)
      (pss_one (ps_ret (pv 0)))), ?_⟩
    refine ⟨_, rfl, x, rfl, (by omega), fun H1 s1 => ⟨_, rfl, ?_⟩⟩
    cases e : isNm x.cps.toList with
    | true => exact iteF ⟨_, rfl, q e H1 s1⟩
    | false => exact iteT (hE.on s1).rais
def spThingE (A : Adr) : Sp := fun vs H Q E => ∃ x : Str, vs = [.str x] ∧ x.length ≤ 900 ∧ (∀ t, ThOk t → thS t = x → ∀ H', Same H H' → Q (thV t) H') ∧ Ref A H E
theorem ok_thingE (T : Txt K mg) {A : Adr} (hX : XTxt K mg A) : L2.ClE P w K mg base 4 "read_thing" ["word"] (spThingE A) := by
  have C_is_number := ok_is_number (P := P) (w := w) (base := base) T
  have C_read_name := ok_nameE (P := P) (w := w) (base := base) T hX
  refine ClE.of T.d_read_thing sc_read_thing (fun vs H Q E h => ?_) (fun _ _ _ _ _ _ us hl => match us, hl with | [_], _ => rfl) (fun f cdv A0 outer s H vs Q E hr h => ?_)
  · obtain ⟨x, rfl, _⟩ := h
    rfl
  · obtain ⟨x, rfl, hx, q, hE⟩ := h
    refine ⟨_, (pss_cons (ps_if (pt_val (pe_fn C_is_number hr (by rfl) (pa_cons (pv 0) pa_nil)))
        (pss_one (ps_ret (pe_callTy call_int_text (by rfl) T.n_int boot_int (pa_cons (pv 0) pa_nil)))) pss_nil)
      (pss_one (ps_ret (pe_fnE C_read_name passE hr (by rfl) (pa_cons (pv 0) pa_nil))))), ?_⟩
    refine ⟨_, rfl, _, rfl, (by omega), fun H1 s1 => ⟨_, rfl, ?_⟩⟩
    cases e : isNumL x.cps.toList with
    | true =>
      obtain ⟨n, hok, en⟩ := num_of e
      exact iteT ⟨_, rfl, _, n, rfl, (by rw [← en]; exact (num_reads hok).1), (by rw [← en]; exact (num_reads hok).2), q (.num n) hok en H1 s1⟩
    | false => exact iteF ⟨_, rfl, x, rfl, hx, fun hn H2 s2 => q (.nam x) hn rfl H2 (s1.trans s2), hE.on s1⟩
def spSignE (A : Adr) : Sp := fun vs H Q E => ∃ x : Str, vs = [.str x] ∧ (∀ s : Int, (s = 1 ∨ s = -1) → sgS s = x → Q (.int s) H) ∧ Ref A H E
theorem ok_signE (T : Txt K mg) {A : Adr} (hX : XTxt K mg A) : L2.ClE P w K mg base 3 "read_sign" ["word"] (spSignE A) := by
  have X_NoRow := ok_initN (P := P) (w := w) (base := base) hX
  refine ClE.of T.d_read_sign sc_read_sign (fun vs H Q E h => ?_) (fun _ _ _ _ _ _ us hl => match us, hl with | [_], _ => rfl) (fun f cdv A0 outer s H vs Q E hr h => ?_)
  · obtain ⟨x, rfl, _⟩ := h
    rfl
  · obtain ⟨x, rfl, q, hE⟩ := h
    refine ⟨_, (pss_cons (ps_if (pt_cmpR op_eq (pv 0) pe_str (nomark _))
        (pss_one (ps_ret pe_int)) pss_nil)
      (pss_cons (ps_if (pt_cmpR op_eq (pv 0) pe_str (nomark _))
        (pss_one (ps_ret (pe_un un_neg pe_int))) pss_nil)
      (pss_one (ps_raise1 X_NoRow hr (by rfl) hX.m_NoRow hX.k_NoRow (pa_cons pe_int pa_nil))))), ?_⟩
    by_cases e : x = "+"
    · subst e
      exact ⟨_, rfl, rfl, _, rfl, iteSE (q 1 (.inl rfl) rfl)⟩
    · refine ⟨_, rfl, rfl, _, rfl, iteSN e ?_⟩
      by_cases e2 : x = "-"
      · subst e2
        exact ⟨_, rfl, rfl, _, rfl, iteSE ⟨_, rfl, q (-1) (.inr rfl) rfl⟩⟩
      · exact ⟨_, rfl, rfl, _, rfl, iteSN e2 hE.rais⟩
def spOnlyE (A : Adr) : Sp := fun vs H Q E => ∃ (l : Addr) (ws : List Str), vs = [.ref l] ∧ H l = some (.lst (ws.map V.str)) ∧ Wok ws ∧ (∀ x, ws = [x] → NameOk x → ∀ H', Same H H' → Q (.str x) H') ∧ Ref A H E
theorem ok_onlyE (T : Txt K mg) {A : Adr} (hX : XTxt K mg A) : L2.ClE P w K mg base 4 "read_only_name" ["words"] (spOnlyE A) := by
  have C_read_name := ok_nameE (P := P) (w := w) (base := base) T hX
  have X_NoRow := ok_initN (P := P) (w := w) (base := base) hX
  refine ClE.of T.d_read_only_name sc_read_only_name (fun vs H Q E h => ?_) (fun _ _ _ _ _ _ us hl => match us, hl with | [_], _ => rfl) (fun f cdv A0 outer s H vs Q E hr h => ?_)
  · obtain ⟨l, x, rfl, _⟩ := h
    rfl
  · obtain ⟨l, ws, rfl, hl, hw, q, hE⟩ := h
    refine ⟨_, (pss_cons (ps_if (pt_cmpR op_ne (pe_callB call_len_seq (by rfl) T.n_len PySem.boot_len (pa_cons (pv 0) pa_nil)) pe_int (nomark _))
        (pss_one (ps_raise1 X_NoRow hr (by rfl) hX.m_NoRow hX.k_NoRow (pa_cons pe_int pa_nil))) pss_nil)
      (pss_one (ps_ret (pe_fnE C_read_name passE hr (by rfl) (pa_cons (pe_ix ix_list (pv 0) pe_int (fun _ _ => rfl)) pa_nil))))), ?_⟩
    refine ⟨_, rfl, l, _, rfl, .inl (SqL.of hl), rfl, _, rfl, ?_⟩
    rw [List.length_map]
    match ws, hl, hw, q with
    | [x], hl, hw, q => exact iteNS rfl ⟨_, rfl, l, _, _, _, rfl, rfl, SqL.of hl, atI_nat (j := 0) rfl, x, rfl, hw.2 x List.mem_cons_self, (fun hn H1 s1 => q x rfl hn H1 s1), hE⟩
    | [], hl, hw, q => exact iteT hE.rais
    | a :: b :: r, hl, hw, q =>
      show if (!decide (V.int ((r.length + 1 + 1 : Nat) : Int) = V.int 1)) = true then _ else _
      rw [decide_eq_false (fun z => by have := V.int.inj z; omega)]
      exact iteT hE.rais
def spPairE (A : Adr) : Sp := fun vs H Q E => ∃ (l : Addr) (ws : List Str), vs = [.ref l] ∧ H l = some (.lst (ws.map V.str)) ∧ Wok ws ∧ (∀ g o, ws = [g, ("as" : Str), o] → NameOk g → NameOk o → ∀ (p : Addr) (H' : Hp), Same H H' → H' p = some (.tup [.str g, .str o]) → Q (.ref p) H') ∧ Ref A H E
theorem ok_pairE (T : Txt K mg) {A : Adr} (hX : XTxt K mg A) : L2.ClE P w K mg base 4 "read_pair" ["words"] (spPairE A) := by
  have C_read_name := ok_nameE (P := P) (w := w) (base := base) T hX
  have X_NoRow := ok_initN (P := P) (w := w) (base := base) hX
  refine ClE.of T.d_read_pair sc_read_pair (fun vs H Q E h => ?_) (fun _ _ _ _ _ _ us hl => match us, hl with | [_], _ => rfl) (fun f cdv A0 outer s H vs Q E hr h => ?_)
  · obtain ⟨l, x, rfl, _⟩ := h
    rfl
  · obtain ⟨l, ws, rfl, hl, hw, q, hE⟩ := h
    refine ⟨_, (pss_cons (ps_if (PW.pt (pw_or (pt_cmpR op_ne (pe_callB call_len_seq (by rfl) T.n_len PySem.boot_len (pa_cons (pv 0) pa_nil)) pe_int (nomark _)) (pw_or1 (pt_cmpR op_ne (pe_ix ix_list (pv 0) pe_int (fun _ _ => rfl)) pe_str (nomark _)))))
        (pss_one (ps_raise1 X_NoRow hr (by rfl) hX.m_NoRow hX.k_NoRow (pa_cons pe_int pa_nil))) pss_nil)
      (pss_one (ps_ret (pe_tup (pa_cons (pe_fnE C_read_name passE hr (by rfl) (pa_cons (pe_ix ix_list (pv 0) pe_int (fun _ _ => rfl)) pa_nil)) (pa_cons (pe_fnE C_read_name passE hr (by rfl) (pa_cons (pe_ix ix_list (pv 0) pe_int (fun _ _ => rfl)) pa_nil)) pa_nil)))))), ?_⟩
    refine ⟨_, rfl, l, _, rfl, .inl (SqL.of hl), rfl, _, rfl, ?_⟩
    rw [List.length_map]
    by_cases h3 : ws.length = 3
    · obtain ⟨g, m, o, rfl⟩ : ∃ a b c, ws = [a, b, c] := by
        match ws, h3 with
        | [a, b, c], _ => exact ⟨a, b, c, rfl⟩
      refine iteNS rfl ⟨_, rfl, l, _, _, _, rfl, rfl, SqL.of hl, atI_nat (j := 1) rfl, rfl, _, rfl, ?_⟩
      by_cases e : m = "as"
      · subst e
        refine iteNS rfl ?_
        refine ⟨_, rfl, l, _, _, _, rfl, rfl, SqL.of hl, atI_nat (j := 0) rfl, g, rfl, hw.2 g (by simp), (fun hg H1 s1 => ?_), hE⟩
        refine ⟨_, rfl, l, _, _, _, rfl, rfl, SqL.of (s1 _ _ hl), atI_nat (j := 2) rfl, o, rfl, hw.2 o (by simp), (fun ho H2 s2 => ⟨(by show 2 ≤ sizeLine; decide), fun p hp => ?_⟩), hE.on s1⟩
        exact q g o rfl hg ho p _ ((s1.trans s2).new hp) upd_same
      · show if (!decide (V.str m = V.str "as")) = true then _ else _
        rw [decide_eq_false (fun z => e (V.str.inj z))]
        exact iteT hE.rais
    · show if (!decide (V.int (ws.length : Int) = V.int 3)) = true then _ else _
      rw [decide_eq_false (fun z => h3 (by have := V.int.inj z; omega))]
      exact iteT hE.rais
theorem Wok.mem {ws : List Str} (h : Wok ws) {i : Nat} {x : Str} (hx : ws[i]? = some x) : x.length ≤ 900 := h.2 x (List.mem_of_getElem? hx)
theorem strs_at {ws : List Str} {i : Nat} {x : Str} (h : ws[i]? = some x) : atI (ws.map V.str) (i : Int) = some (.str x) := atI_nat (by rw [List.getElem?_map, h]; rfl)
def spSumE (A : Adr) : Sp := fun vs H Q E => ∃ (l : Addr) (ws : List Str), vs = [.ref l] ∧ H l = some (.lst (ws.map V.str)) ∧ Wok ws ∧ (∀ (ts : List (Int × Th)) (t : Addr) (H' : Hp), sumW ts = ws → SumOk ts → Same H H' → TermsAt H' t ts → Q (.ref t) H') ∧ Ref A H E
theorem ok_sumE (T : Txt K mg) {A : Adr} (hX : XTxt K mg A) : L2.ClE P w K mg base 5 "read_sum" ["words"] (spSumE A) := by
  have C_read_thing := ok_thingE (P := P) (w := w) (base := base) T hX
  have C_read_sign := ok_signE (P := P) (w := w) (base := base) T hX
  have X_NoRow := ok_initN (P := P) (w := w) (base := base) hX
  refine ClE.of T.d_read_sum sc_read_sum (fun vs H Q E h => ?_) (fun _ _ _ _ _ _ us hl => match us, hl with | [_], _ => rfl) (fun f cdv A0 outer s H vs Q E hr h => ?_)
  · obtain ⟨l, ws, rfl, _⟩ := h
    rfl
  · obtain ⟨l, ws, rfl, hl, hw, q, hE⟩ := h
    refine ⟨_, (pss_cons (ps_if (PW.pt (pw_or (pt_cmpR op_ne (pe_op op_mod (pe_callB call_len_seq (by rfl) T.n_len PySem.boot_len (pa_cons (pv 0) pa_nil)) pe_int) pe_int (nomark _)) (pw_or1 (pt_cmpR op_gt (pe_callB call_len_seq (by rfl) T.n_len PySem.boot_len (pa_cons (pv 0) pa_nil)) (pe_op op_sub (pe_op op_mul pe_int (pe_globS T.g_MOST_TERMS (by rfl))) pe_int) (nomark _)))))
        (pss_one (ps_raise1 X_NoRow hr (by rfl) hX.m_NoRow hX.k_NoRow (pa_cons pe_int pa_nil))) pss_nil)
      (pss_cons (ps_set (i := 1) sc_read_sum.nd rfl (Or.inl rfl) (pe_lst (pa_cons (pe_tup (pa_cons pe_int (pa_cons (pe_fnE C_read_thing passE hr (by rfl) (pa_cons (pe_ix ix_list (pv 0) pe_int (fun _ _ => rfl)) pa_nil)) pa_nil))) pa_nil)))
      (pss_cons (ps_for passOwn rfl (pi_range3 (by rfl) T.n_range (pa_cons pe_int (pa_cons (pe_callB call_len_seq (by rfl) T.n_len PySem.boot_len (pa_cons (pv 0) pa_nil)) (pa_cons pe_int pa_nil)))) (pg_name (i := 2) sc_read_sum.nd rfl (Or.inl rfl))
        (pss_one (ps_expr (pe_bm PySem.F.plainAttrs_list PySem.F.slot_list_append PySem.F.type_list_append mt_append (pv 1) (pa_cons (pe_tup (pa_cons (pe_fnE C_read_sign passE hr (by rfl) (pa_cons (pe_ix ix_list (pv 0) (pv 2) (fun _ _ => rfl)) pa_nil)) (pa_cons (pe_fnE C_read_thing passE hr (by rfl) (pa_cons (pe_ix ix_list (pv 0) (pe_op op_add (pv 2) pe_int) (fun _ _ => rfl)) pa_nil)) pa_nil))) pa_nil)))))
      (pss_one (ps_ret (pe_callTy call_tuple_of (by rfl) T.n_tuple boot_tuple (pa_cons (pv 1) pa_nil))))))), ?_⟩
    refine ⟨_, rfl, l, _, rfl, .inl (SqL.of hl), _, _, rfl, rfl, (by show (0 : Int) < 2; decide), rfl, _, rfl, ?_⟩
    rw [List.length_map]
    by_cases hodd : ws.length % 2 = 1
    · refine iteNS (show V.int ((ws.length : Int) % 2) = V.int 1 from congrArg V.int (by omega)) ?_
      refine ⟨_, rfl, l, _, rfl, .inl (SqL.of hl), _, _, rfl, rfl, .inl ⟨by decide, by decide⟩, _, _, rfl, rfl, _, _, rfl, rfl, _, rfl, ?_⟩
      rw [List.length_map]
      by_cases hmany : ws.length ≤ 11
      · refine iteDN (by omega) ?_
        have h0 : ws[0]? = some (ws[0]'(by omega)) := List.getElem?_eq_getElem (by omega)
        refine ⟨_, rfl, l, _, _, _, rfl, rfl, SqL.of hl, strs_at h0, _, rfl, hw.mem h0, (fun t0 hok0 et0 H1 s1 => ⟨(by show 2 ≤ sizeLine; decide), fun a ha => ⟨(by show 1 ≤ sizeLine; decide), fun d hd => ?_⟩⟩), hE⟩
        have s2 := (s1.new (o := .tup [.int 1, thV t0]) ha).new (o := .lst [.ref a]) hd
        have hd0 : H d = none := (s1.new ha).free hd
        refine ⟨_, rfl, l, _, rfl, .inl (SqL.of (s2 _ _ hl)), 1, _, 2, rfl, ⟨by decide, by decide, by rw [List.length_map]; omega, by rw [List.length_map]; omega, by decide, by decide⟩, ?_⟩
        obtain ⟨n, hn⟩ : ∃ n, ws.length = 2 * n + 1 := ⟨ws.length / 2, by omega⟩
        have hrs : (Builtin.Range.rangeSize 1 ((ws.map V.str).length : Int) 2).toNat = n := by
          rw [List.length_map, hn]
          exact rsize (c := 2) (by decide)
        rw [hrs]
        refine for_range3 (fun i σ H2 => ∃ (vs : List V) (ts : List (Int × Th)) (v2 : Option V), σ = [some (.ref l), some (.ref d), v2] ∧ Same H H2 ∧ H2 d = some (.lst vs) ∧ Terms H2 vs ts ∧ sumW ts = ws.take (2 * i + 1) ∧ ts.length = i + 1 ∧ (∀ p ∈ ts, ThOk p.2) ∧ (∀ p ∈ ts, p.1 = 1 ∨ p.1 = -1) ∧ ∀ p, ts.head? = some p → p.1 = 1)
          ⟨[.ref a], [(1, t0)], none, rfl, s2, upd_same, .cons ⟨a, rfl, upd_keep upd_same hd, hok0⟩ .nil, ?_, rfl, ?_, ?_, ?_⟩ ?_ ?_
        · show [thS t0] = ws.take (2 * 0 + 1)
          rw [et0, take_succ_get h0]
          rfl
        · intro p hp; rw [List.mem_singleton.mp hp]; exact hok0
        · intro p hp; rw [List.mem_singleton.mp hp]; exact .inl rfl
        · intro p hp; rw [← Option.some.inj hp]
        · rintro i σ H2 hi ⟨vs, ts, v2, rfl, s3, hd3, ht, hsw, hsl, p1, p2, p3⟩
          have g1 : ws[2 * i + 1]? = some (ws[2 * i + 1]'(by omega)) := List.getElem?_eq_getElem (by omega)
          have g2 : ws[2 * i + 2]? = some (ws[2 * i + 2]'(by omega)) := List.getElem?_eq_getElem (by omega)
          have hvl : vs.length = i + 1 := by rw [Paired.length ht, hsl]
          have htne : ts ≠ [] := fun z => by rw [z] at hsl; simp at hsl
          refine ⟨_, rfl, .inl ⟨rfl, _, SqL.of hd3⟩, _, rfl, _, rfl, l, _, _, _, rfl, rfl, SqL.of (s3 _ _ hl), ?_, ws[2 * i + 1]'(by omega), rfl, (fun z hz ez => ?_), hE.on s3⟩
          · rw [show (1 : Int) + i * 2 = ((2 * i + 1 : Nat) : Int) by omega]
            exact strs_at g1
          refine ⟨_, rfl, _, rfl, _, _, rfl, rfl, l, _, _, _, rfl, rfl, SqL.of (s3 _ _ hl), ?_, ws[2 * i + 2]'(by omega), rfl, hw.mem g2, (fun th hth eth H4 s4 => ?_), hE.on s3⟩
          · rw [show (1 : Int) + i * 2 + 1 = ((2 * i + 2 : Nat) : Int) by omega]
            exact strs_at g2
          refine ⟨(by show 2 ≤ sizeLine; decide), fun b hb => ⟨d, _, _, rfl, rfl, upd_keep (s4 _ _ hd3) hb, small1000 (by omega), ?_⟩⟩
          refine ⟨vs ++ [.ref b], ts ++ [(z, th)], _, rfl, ((s3.trans s4).new hb).put hd0, upd_same, ?_, ?_, by rw [List.length_append, hsl]; rfl, ?_, ?_, ?_⟩
          · refine Paired.snoc (((Terms.mono s4.tups ht).mono (Tups.new hb)).mono (Tups.lst (upd_keep (s4 _ _ hd3) hb))) ⟨b, rfl, ?_, hth⟩
            rw [upd_ne (ne_of_none (s4 _ _ hd3) hb).symm]
            exact upd_same
          · rw [sumW_snoc z th htne, hsw, show 2 * (i + 1) + 1 = 2 * i + 1 + 1 + 1 by omega, take_succ_get g2, take_succ_get g1, ← ez, ← eth, List.append_assoc]
            rfl
          · intro p hp
            rcases List.mem_append.mp hp with u | u
            · exact p1 p u
            · rw [List.mem_singleton.mp u]; exact hth
          · intro p hp
            rcases List.mem_append.mp hp with u | u
            · exact p2 p u
            · rw [List.mem_singleton.mp u]; exact hz
          · intro p hp
            cases ts with
            | nil => exact absurd rfl htne
            | cons u us => exact p3 p hp
        · rintro σ H2 ⟨vs, ts, v2, rfl, s3, hd3, ht, hsw, hsl, p1, p2, p3⟩
          rw [show 2 * n + 1 = ws.length by omega, List.take_length] at hsw
          refine ⟨_, rfl, d, _, rfl, .inl ⟨SqL.of hd3, fun t gt => ?_⟩⟩
          exact q ts t _ hsw ⟨by omega, by omega, p1, p2, p3⟩ (s3.new gt) ⟨⟨vs, upd_same, ht.mono (Tups.new gt)⟩, by omega, by omega⟩
      · exact iteDP (by omega) hE.rais
    · show if (!decide (V.int ((ws.length : Int) % 2) = V.int 1)) = true then _ else _
      rw [decide_eq_false (fun z => hodd (by have := V.int.inj z; omega))]
      exact iteT hE.rais
def spRowE (A : Adr) (kind : Str) : Sp := fun vs H Q E => ∃ (l : Addr) (ws : List Str), vs = [.ref l] ∧ H l = some (.lst (ws.map V.str)) ∧ Wok ws ∧ (∀ (rw : Rw) (r : Addr) (H' : Hp), rowW rw = kind :: ws → RwOk rw → Same H H' → RowAt H' r rw → Q (.ref r) H') ∧ Ref A H E
theorem Wok.drop {ws : List Str} (h : Wok ws) (k : Nat) : Wok (ws.drop k) := ⟨by rw [List.length_drop]; have := h.1; omega, fun x hx => h.2 x (List.mem_of_mem_drop hx)⟩
theorem ok_setE (T : Txt K mg) {A : Adr} (hX : XTxt K mg A) : L2.ClE P w K mg base 6 "read_set" ["words"] (spRowE A "set") := by
  have C_read_name := ok_nameE (P := P) (w := w) (base := base) T hX
  have C_read_sum := ok_sumE (P := P) (w := w) (base := base) T hX
  have X_NoRow := ok_initN (P := P) (w := w) (base := base) hX
  refine ClE.of T.d_read_set sc_read_set (fun vs H Q E h => ?_) (fun _ _ _ _ _ _ us hl => match us, hl with | [_], _ => rfl) (fun f cdv A0 outer s H vs Q E hr h => ?_)
  · obtain ⟨l, ws, rfl, _⟩ := h
    rfl
  · obtain ⟨l, ws, rfl, hl, hw, q, hE⟩ := h
    refine ⟨_, (pss_cons (ps_if (PW.pt (pw_or (pt_cmpR op_lt (pe_callB call_len_seq (by rfl) T.n_len PySem.boot_len (pa_cons (pv 0) pa_nil)) pe_int (nomark _)) (pw_or1 (pt_cmpR op_ne (pe_ix ix_list (pv 0) pe_int (fun _ _ => rfl)) pe_str (nomark _)))))
        (pss_one (ps_raise1 X_NoRow hr (by rfl) hX.m_NoRow hX.k_NoRow (pa_cons pe_int pa_nil))) pss_nil)
      (pss_one (ps_ret (pe_tup (pa_cons pe_str (pa_cons (pe_fnE C_read_name passE hr (by rfl) (pa_cons (pe_ix ix_list (pv 0) pe_int (fun _ _ => rfl)) pa_nil)) (pa_cons (pe_fnE C_read_sum passE hr (by rfl) (pa_cons (pe_slice sl_list (pv 0) (po_some pe_int) po_none) pa_nil)) pa_nil))))))), ?_⟩
    refine ⟨_, rfl, l, _, rfl, .inl (SqL.of hl), _, _, rfl, rfl, _, rfl, ?_⟩
    rw [List.length_map]
    by_cases h3 : 3 ≤ ws.length
    · refine iteDN (by omega) ?_
      obtain ⟨o, m, us, rfl⟩ : ∃ o m us, ws = o :: m :: us := by
        match ws, h3 with
        | a :: b :: r, _ => exact ⟨a, b, r, rfl⟩
      refine ⟨_, rfl, l, _, _, _, rfl, rfl, SqL.of hl, atI_nat (j := 1) (v := .str m) rfl, rfl, _, rfl, ?_⟩
      by_cases e : m = "="
      · subst e
        refine iteNS rfl ?_
        refine ⟨_, rfl, l, _, _, _, rfl, rfl, SqL.of hl, atI_nat (j := 0) (v := .str o) rfl, o, rfl, hw.2 o (by simp), (fun ho H1 s1 => ?_), hE⟩
        refine ⟨_, rfl, _, rfl, l, _, rfl, SqL.of (s1 _ _ hl), fun d hd => ?_⟩
        have s2 := s1.new (o := .lst (cutV ((o :: "=" :: us).map V.str) (some 2) none)) hd
        refine ⟨d, us, rfl, ?_, hw.drop 2, (fun ts t H2 hts hok s3 ht => ⟨(by show 3 ≤ sizeLine; decide), fun r hr => ?_⟩), hE.on s2⟩
        · rw [upd_same]
          exact congrArg (fun z => some (HO.lst z)) (cut_from ((o :: "=" :: us).map V.str) 2 (by simp))
        · exact q (.set o ts) r _ (by show ("set" : Str) :: o :: ("=" : Str) :: sumW ts = _; rw [hts]) ⟨ho, hok⟩ ((s2.trans s3).new hr) ⟨t, upd_same, ht.mono (Tups.new hr)⟩
      · show if (!decide (V.str m = V.str "=")) = true then _ else _
        rw [decide_eq_false (fun z => e (V.str.inj z))]
        exact iteT hE.rais
    · exact iteDP (by omega) hE.rais
theorem when_cases (ws : List Str) : (∃ (us : List Str) (w : Str), ws = us ++ [("when" : Str), w] ∧ us ≠ []) ∨ ws.length ≤ 2 ∨ ∃ (us : List Str) (a b : Str), ws = us ++ [a, b] ∧ us ≠ [] ∧ a ≠ ("when" : Str) := by
  by_cases h : ws.length ≤ 2
  · exact .inr (.inl h)
  · obtain ⟨us, a, b, rfl⟩ : ∃ (us : List Str) (a b : Str), ws = us ++ [a, b] := by
      refine ⟨ws.take (ws.length - 2), ws[ws.length - 2]'(by omega), ws[ws.length - 1]'(by omega), ?_⟩
      have e1 := take_succ_get (List.getElem?_eq_getElem (l := ws) (i := ws.length - 2) (by omega))
      have e2 := take_succ_get (List.getElem?_eq_getElem (l := ws) (i := ws.length - 1) (by omega))
      rw [show ws.length - 2 + 1 = ws.length - 1 by omega] at e1
      rw [show ws.length - 1 + 1 = ws.length by omega, List.take_length, e1] at e2
      rw [List.append_assoc] at e2
      exact e2
    have hu : us ≠ [] := fun z => by rw [z] at h; simp at h
    by_cases e : a = "when"
    · exact .inl ⟨us, b, by rw [e], hu⟩
    · exact .inr (.inr ⟨us, a, b, rfl, hu, e⟩)
theorem Wok.front {us : List Str} {a b : Str} (h : Wok (us ++ [a, b])) : Wok us ∧ b.length ≤ 900 := ⟨⟨by have := h.1; rw [List.length_append] at this; omega, fun x hx => h.2 x (List.mem_append_left _ hx)⟩, h.2 b (by simp)⟩
theorem ok_sayE (T : Txt K mg) {A : Adr} (hX : XTxt K mg A) : L2.ClE P w K mg base 6 "read_say" ["words"] (spRowE A "say") := by
  have C_has_when := ok_has_when (P := P) (w := w) (base := base) T
  have C_read_name := ok_nameE (P := P) (w := w) (base := base) T hX
  have C_read_sum := ok_sumE (P := P) (w := w) (base := base) T hX
  refine ClE.of T.d_read_say sc_read_say (fun vs H Q E h => ?_) (fun _ _ _ _ _ _ us hl => match us, hl with | [_], _ => rfl) (fun f cdv A0 outer s H vs Q E hr h => ?_)
  · obtain ⟨l, ws, rfl, _⟩ := h
    rfl
  · obtain ⟨l, ws, rfl, hl, hw, q, hE⟩ := h
    refine ⟨_, (pss_cons (ps_if (pt_val (pe_fn C_has_when hr (by rfl) (pa_cons (pv 0) pa_nil)))
        (pss_one (ps_ret (pe_tup (pa_cons pe_str (pa_cons (pe_fnE C_read_sum passE hr (by rfl) (pa_cons (pe_slice sl_list (pv 0) po_none (po_some (pe_un un_neg pe_int))) pa_nil)) (pa_cons (pe_fnE C_read_name passE hr (by rfl) (pa_cons (pe_ix ix_list (pv 0) (pe_un un_neg pe_int) (fun _ _ => rfl)) pa_nil)) pa_nil)))))) pss_nil)
      (pss_one (ps_ret (pe_tup (pa_cons pe_str (pa_cons (pe_fnE C_read_sum passE hr (by rfl) (pa_cons (pv 0) pa_nil)) (pa_cons pe_non pa_nil))))))), ?_⟩
    have bare : ∃ (l' : Addr) (ws' : List Str), ([V.ref l] : List V) = [.ref l'] ∧ H l' = some (.lst (ws'.map V.str)) ∧ Wok ws' ∧ (∀ (ts : List (Int × Th)) (t : Addr) (H' : Hp), sumW ts = ws' → SumOk ts → Same H H' → TermsAt H' t ts → 3 ≤ sizeLine ∧ ∀ p, H' p = none → Q (.ref p) (upd H' p (.tup [.str "say", .ref t, .non]))) ∧ Ref A H E :=
      ⟨l, ws, rfl, hl, hw, (fun ts t H2 hts hok s2 ht => ⟨by decide, fun r hr => q (.say ts none) r _ (by show ("say" : Str) :: (sumW ts ++ ([] : List Str)) = _; rw [List.append_nil, hts]) ⟨hok, fun x hx => by cases hx⟩ (s2.new hr) ⟨t, upd_same, ht.mono (Tups.new hr)⟩⟩), hE⟩
    rcases when_cases ws with ⟨us, x, rfl, hne⟩ | h2 | ⟨us, a, b, rfl, hne, hab⟩
    · refine ⟨_, rfl, l, _, rfl, hl, .inl ⟨us, x, rfl, hne, ⟨_, rfl, iteT ?_⟩⟩⟩
      have hl' : H l = some (.lst (us.map V.str ++ [V.str "when", V.str x])) := by rw [hl, List.map_append]; rfl
      refine ⟨_, rfl, _, rfl, _, rfl, l, _, rfl, SqL.of hl', fun d hd => ?_⟩
      have s1 := (Same.refl H).new (o := .lst (cutV (us.map V.str ++ [V.str "when", V.str x]) none (some (-2)))) hd
      refine ⟨d, us, rfl, (by rw [upd_same]; exact congrArg (fun z => some (HO.lst z)) (cut_m2 ..)), hw.front.1, (fun ts t H2 hts hok s2 ht => ?_), hE.on s1⟩
      have s3 := s1.trans s2
      refine ⟨_, rfl, _, rfl, l, _, _, _, rfl, rfl, SqL.of (s3 _ _ hl'), (by rw [show us.map V.str ++ [V.str "when", V.str x] = (us.map V.str ++ [V.str "when"]) ++ [V.str x] by simp]; exact atI_last ..), x, rfl, hw.front.2, (fun hx H4 s4 => ⟨(by show 3 ≤ sizeLine; decide), fun r hr => ?_⟩), hE.on s3⟩
      exact q (.say ts (some x)) r _ (by show ("say" : Str) :: (sumW ts ++ [("when" : Str), x]) = _; rw [hts]) ⟨hok, fun y hy => by rw [← Option.some.inj hy]; exact hx⟩ ((s3.trans s4).new hr) ⟨t, upd_same, (ht.mono s4.tups).mono (Tups.new hr)⟩
    · exact ⟨_, rfl, l, _, rfl, hl, .inr (.inl ⟨h2, _, rfl, iteF ⟨_, rfl, bare⟩⟩)⟩
    · exact ⟨_, rfl, l, _, rfl, hl, .inr (.inr ⟨us, a, b, rfl, hne, hab, _, rfl, iteF ⟨_, rfl, bare⟩⟩)⟩
theorem ok_askE (T : Txt K mg) {A : Adr} (hX : XTxt K mg A) : L2.ClE P w K mg base 5 "read_ask" ["words"] (spRowE A "ask") := by
  have C_has_when := ok_has_when (P := P) (w := w) (base := base) T
  have C_read_name := ok_nameE (P := P) (w := w) (base := base) T hX
  have C_read_only_name := ok_onlyE (P := P) (w := w) (base := base) T hX
  refine ClE.of T.d_read_ask sc_read_ask (fun vs H Q E h => ?_) (fun _ _ _ _ _ _ us hl => match us, hl with | [_], _ => rfl) (fun f cdv A0 outer s H vs Q E hr h => ?_)
  · obtain ⟨l, ws, rfl, _⟩ := h
    rfl
  · obtain ⟨l, ws, rfl, hl, hw, q, hE⟩ := h
    refine ⟨_, (pss_cons (ps_if (pt_val (pe_fn C_has_when hr (by rfl) (pa_cons (pv 0) pa_nil)))
        (pss_one (ps_ret (pe_tup (pa_cons pe_str (pa_cons (pe_fnE C_read_only_name passE hr (by rfl) (pa_cons (pe_slice sl_list (pv 0) po_none (po_some (pe_un un_neg pe_int))) pa_nil)) (pa_cons (pe_fnE C_read_name passE hr (by rfl) (pa_cons (pe_ix ix_list (pv 0) (pe_un un_neg pe_int) (fun _ _ => rfl)) pa_nil)) pa_nil)))))) pss_nil)
      (pss_one (ps_ret (pe_tup (pa_cons pe_str (pa_cons (pe_fnE C_read_only_name passE hr (by rfl) (pa_cons (pv 0) pa_nil)) (pa_cons pe_non pa_nil))))))), ?_⟩
    have bare : ∃ (l' : Addr) (ws' : List Str), ([V.ref l] : List V) = [.ref l'] ∧ H l' = some (.lst (ws'.map V.str)) ∧ Wok ws' ∧ (∀ x, ws' = [x] → NameOk x → ∀ H', Same H H' → 3 ≤ sizeLine ∧ ∀ p, H' p = none → Q (.ref p) (upd H' p (.tup [.str "ask", .str x, .non]))) ∧ Ref A H E :=
      ⟨l, ws, rfl, hl, hw, (fun x ex hx H2 s2 => ⟨by decide, fun r hr => q (.ask x none) r _ (by rw [ex]; rfl) ⟨hx, fun y hy => by cases hy⟩ (s2.new hr) upd_same⟩), hE⟩
    rcases when_cases ws with ⟨us, x, rfl, hne⟩ | h2 | ⟨us, a, b, rfl, hne, hab⟩
    · refine ⟨_, rfl, l, _, rfl, hl, .inl ⟨us, x, rfl, hne, ⟨_, rfl, iteT ?_⟩⟩⟩
      have hl' : H l = some (.lst (us.map V.str ++ [V.str "when", V.str x])) := by rw [hl, List.map_append]; rfl
      refine ⟨_, rfl, _, rfl, _, rfl, l, _, rfl, SqL.of hl', fun d hd => ?_⟩
      have s1 := (Same.refl H).new (o := .lst (cutV (us.map V.str ++ [V.str "when", V.str x]) none (some (-2)))) hd
      refine ⟨d, us, rfl, (by rw [upd_same]; exact congrArg (fun z => some (HO.lst z)) (cut_m2 ..)), hw.front.1, (fun p ep hp H2 s2 => ?_), hE.on s1⟩
      have s3 := s1.trans s2
      refine ⟨_, rfl, _, rfl, l, _, _, _, rfl, rfl, SqL.of (s3 _ _ hl'), (by rw [show us.map V.str ++ [V.str "when", V.str x] = (us.map V.str ++ [V.str "when"]) ++ [V.str x] by simp]; exact atI_last ..), x, rfl, hw.front.2, (fun hx H4 s4 => ⟨(by show 3 ≤ sizeLine; decide), fun r hr => ?_⟩), hE.on s3⟩
      exact q (.ask p (some x)) r _ (by rw [ep]; rfl) ⟨hp, fun y hy => by rw [← Option.some.inj hy]; exact hx⟩ ((s3.trans s4).new hr) upd_same
    · exact ⟨_, rfl, l, _, rfl, hl, .inr (.inl ⟨h2, _, rfl, iteF ⟨_, rfl, bare⟩⟩)⟩
    · exact ⟨_, rfl, l, _, rfl, hl, .inr (.inr ⟨us, a, b, rfl, hne, hab, _, rfl, iteF ⟨_, rfl, bare⟩⟩)⟩
theorem ok_bringE (T : Txt K mg) {A : Adr} (hX : XTxt K mg A) : L2.ClE P w K mg base 5 "read_bring" ["words"] (spRowE A "bring") := by
  have C_read_name := ok_nameE (P := P) (w := w) (base := base) T hX
  have C_read_pair := ok_pairE (P := P) (w := w) (base := base) T hX
  have X_NoRow := ok_initN (P := P) (w := w) (base := base) hX
  refine ClE.of T.d_read_bring sc_read_bring (fun vs H Q E h => ?_) (fun _ _ _ _ _ _ us hl => match us, hl with | [_], _ => rfl) (fun f cdv A0 outer s H vs Q E hr h => ?_)
  · obtain ⟨l, ws, rfl, _⟩ := h
    rfl
  · obtain ⟨l, ws, rfl, hl, hw, q, hE⟩ := h
    refine ⟨_, (pss_cons (ps_if (PW.pt (pw_or (pt_cmpR op_ne (pe_op op_mod (pe_callB call_len_seq (by rfl) T.n_len PySem.boot_len (pa_cons (pv 0) pa_nil)) pe_int) pe_int (nomark _)) (pw_or1 (pt_cmpR op_gt (pe_callB call_len_seq (by rfl) T.n_len PySem.boot_len (pa_cons (pv 0) pa_nil)) (pe_op op_add pe_int (pe_op op_mul pe_int (pe_globS T.g_MOST_PAIRS (by rfl)))) (nomark _)))))
        (pss_one (ps_raise1 X_NoRow hr (by rfl) hX.m_NoRow hX.k_NoRow (pa_cons pe_int pa_nil))) pss_nil)
      (pss_cons (ps_setCE (j := 1) (M := ["k", "words"]) (ρ := [none, some 0]) (defScope s_read_bring) ["words", "pairs"] ⟨rfl, by decide +kernel, by decide +kernel, by decide +kernel, rfl, by decide +kernel, by decide +kernel⟩ sc_read_bring.nd rfl (Or.inl rfl) (pi_range3 (by rfl) T.n_range (pa_cons pe_int (pa_cons (pe_callB call_len_seq (by rfl) T.n_len PySem.boot_len (pa_cons (pv 0) pa_nil)) (pa_cons pe_int pa_nil)))) (fun _ _ _ _ _ _ => (pg_name (i := 0) (show (["k", "words"] : List Str).Nodup by decide +kernel) rfl (Or.inl rfl))) (fun _ _ _ _ _ _ => pts_nil) (fun _ _ _ _ _ _ hp => (pe_fnE C_read_pair hp hr (by rfl) (pa_cons (pe_slice (sl_listK (K := K) rfl) (pv 1) (po_some (pv 0)) (po_some (pe_op op_add (pv 0) pe_int))) pa_nil))))
      (pss_one (ps_ret (pe_tup (pa_cons pe_str (pa_cons (pe_fnE C_read_name passE hr (by rfl) (pa_cons (pe_ix ix_list (pv 0) pe_int (fun _ _ => rfl)) pa_nil)) (pa_cons (pe_callTy call_tuple_of (by rfl) T.n_tuple boot_tuple (pa_cons (pv 1) pa_nil)) pa_nil)))))))), ?_⟩
    refine ⟨_, rfl, l, _, rfl, .inl (SqL.of hl), _, _, rfl, rfl, (by show (0 : Int) < 3; decide), rfl, _, rfl, ?_⟩
    rw [List.length_map]
    by_cases h1 : ws.length % 3 = 1
    · refine iteNS (show V.int ((ws.length : Int) % 3) = V.int 1 from congrArg V.int (by omega)) ?_
      refine ⟨_, rfl, l, _, rfl, .inl (SqL.of hl), _, _, rfl, rfl, .inl ⟨by decide, by decide⟩, _, _, rfl, rfl, _, _, rfl, rfl, _, rfl, ?_⟩
      rw [List.length_map]
      by_cases hmany : ws.length ≤ 19
      · refine iteDN (by omega) ?_
        obtain ⟨p, us, rfl⟩ : ∃ p us, ws = p :: us := by
          match ws, h1 with
          | a :: r, _ => exact ⟨a, r, rfl⟩
        rw [List.length_cons] at h1 hmany
        obtain ⟨n, hn⟩ : ∃ n, us.length = 3 * n := ⟨us.length / 3, by omega⟩
        have hlen : (((p :: us).map V.str).length : Int) = ((3 * n + 1 : Nat) : Int) := by rw [List.length_map, List.length_cons, hn]
        refine ⟨_, rfl, l, _, rfl, .inl (SqL.of hl), 1, _, 3, rfl, ⟨by decide, by decide, by rw [hlen]; omega, by rw [hlen]; omega, by decide, by decide⟩, fun D hD => ?_⟩
        have hrs : (Builtin.Range.rangeSize 1 ((3 * n + 1 : Nat) : Int) 3).toNat = n := rsize (c := 3) (by decide)
        rw [hlen, hrs]
        refine comp_by n (fun i σ H2 => ∃ (v0 : Option V) (vs : List V) (ps : List (Str × Str)), σ = [v0, some (.ref l)] ∧ Same H H2 ∧ H2 D = some (.lst vs) ∧ Pairs H2 vs ps ∧ pairW ps = us.take (3 * i) ∧ ps.length = i ∧ ∀ d ∈ ps, NameOk d.1 ∧ NameOk d.2) ⟨_, [], [], rfl, (Same.refl H).new hD, upd_same, .nil, rfl, rfl, fun d hd => by cases hd⟩ ?_ ?_
        · rintro i σ H2 hi ⟨v0, vs, ps, rfl, s2, hD2, hP, hpw, hpl, hpn⟩
          refine ⟨hi, ?_⟩
          rintro v H3 ⟨rfl, rfl⟩
          refine ntG ?_
          have hvl : vs.length = i := by rw [Paired.length hP, hpl]
          refine ⟨_, rfl, _, rfl, _, rfl, _, rfl, _, _, rfl, rfl, _, rfl, l, _, rfl, SqL.of (s2 _ _ hl), fun a ha => ?_⟩
          have s3 := s2.new (o := .lst (cutV ((p :: us).map V.str) (some (1 + i * 3)) (some (1 + i * 3 + 3)))) ha
          refine ⟨a, (us.drop (3 * i)).take 3, rfl, ?_, ⟨by rw [List.length_take]; omega, fun x hx => hw.2 x (List.mem_cons_of_mem _ (List.mem_of_mem_drop (List.mem_of_mem_take hx)))⟩, (fun g o ego hg ho b H4 s4 hb => ?_), hE.on s3⟩
          · rw [upd_same, show (1 : Int) + i * 3 = ((3 * i + 1 : Nat) : Int) by omega, show ((3 * i + 1 : Nat) : Int) + 3 = ((3 * i + 4 : Nat) : Int) by omega, cut_mid _ _ _ (by omega) (by rw [List.length_map, List.length_cons]; omega)]
            refine congrArg (fun z => some (HO.lst z)) ?_
            rw [show 3 * i + 4 - (3 * i + 1) = 3 by omega, List.map_cons, List.drop_succ_cons, ← List.map_drop, ← List.map_take]
          · have hD3 := upd_keep (o := .lst (cutV ((p :: us).map V.str) (some (1 + i * 3)) (some (1 + i * 3 + 3)))) hD2 ha
            have hD4 := s4 _ _ hD3
            refine ⟨vs, hD4, small1000 (by omega), _, vs ++ [.ref b], ps ++ [(g, o)], rfl, (s3.trans s4).put hD, upd_same, ?_, ?_, by rw [List.length_append, hpl]; rfl, fun d hd => ?_⟩
            · refine Paired.snoc (((hP.mono (Tups.new ha)).mono s4.tups).mono (Tups.lst hD4)) ⟨b, rfl, ?_, hg, ho⟩
              rw [upd_ne (ne_of hb hD4 (by intro z; cases z))]
              exact hb
            · rw [pairW_snoc, hpw, ← ego, show 3 * (i + 1) = 3 * i + 3 by omega, List.take_add]
            · rcases List.mem_append.mp hd with u | u
              · exact hpn d u
              · rw [List.mem_singleton.mp u]; exact ⟨hg, ho⟩
        · rintro σ H2 ⟨v0, vs, ps, rfl, s2, hD2, hP, hpw, hpl, hpn⟩
          refine ⟨Nat.le_refl _, ?_⟩
          rw [← hn, List.take_length] at hpw
          refine ⟨_, rfl, l, _, _, _, rfl, rfl, SqL.of (s2 _ _ hl), atI_nat (j := 0) (v := .str p) rfl, p, rfl, hw.2 p List.mem_cons_self, (fun hp H4 s4 => ?_), hE.on s2⟩
          refine ⟨_, rfl, D, _, rfl, .inl ⟨SqL.of (s4 _ _ hD2), fun t gt => ⟨(by show 3 ≤ sizeLine; decide), fun r gr => ?_⟩⟩⟩
          exact q (.bring p ps) r _ (by show ("bring" : Str) :: p :: pairW ps = _; rw [hpw]) ⟨hp, by omega, hpn⟩ (((s2.trans s4).new gt).new gr) ⟨t, upd_same, ⟨vs, upd_keep upd_same gr, ((hP.mono s4.tups).mono (Tups.new gt)).mono (Tups.new gr)⟩, by omega⟩
      · exact iteDP (by omega) hE.rais
    · show if (!decide (V.int ((ws.length : Int) % 3) = V.int 1)) = true then _ else _
      rw [decide_eq_false (fun z => h1 (by have := V.int.inj z; omega))]
      exact iteT hE.rais
theorem split_ne3 (x : Str) : PySem.Txt.split x " " ≠ [] := fun z => by
  have h := StrLaws.join_split x " "
  rw [z] at h
  rw [← h] at z
  exact absurd z (by decide +kernel)
def spAnyE (A : Adr) : Sp := fun vs H Q E => ∃ x : Str, vs = [.str x] ∧ x.length ≤ 100000 ∧ Wok (PySem.Txt.split x " ") ∧ (∀ (rw : Rw) (r : Addr) (H' : Hp), rowW rw = PySem.Txt.split x " " → RwOk rw → Same H H' → RowAt H' r rw → Q (.ref r) H') ∧ Ref A H E
theorem ok_anyE (T : Txt K mg) {A : Adr} (hX : XTxt K mg A) : L2.ClE P w K mg base 7 "read_row" ["text"] (spAnyE A) := by
  have C_read_bring := ok_bringE (P := P) (w := w) (base := base) T hX
  have C_read_pair := ok_pairE (P := P) (w := w) (base := base) T hX
  have C_read_set := ok_setE (P := P) (w := w) (base := base) T hX
  have C_read_say := ok_sayE (P := P) (w := w) (base := base) T hX
  have C_read_sum := ok_sumE (P := P) (w := w) (base := base) T hX
  have C_read_ask := ok_askE (P := P) (w := w) (base := base) T hX
  have C_read_only_name := ok_onlyE (P := P) (w := w) (base := base) T hX
  have X_NoRow := ok_initN (P := P) (w := w) (base := base) hX
  refine ClE.of T.d_read_row sc_read_row (fun vs H Q E h => ?_) (fun _ _ _ _ _ _ us hl => match us, hl with | [_], _ => rfl) (fun f cdv A0 outer s H vs Q E hr h => ?_)
  · obtain ⟨x, rfl, _⟩ := h
    rfl
  · obtain ⟨x, rfl, hx, hw, q, hE⟩ := h
    have hne := split_ne3 x
    refine ⟨_, (pss_cons (ps_set (i := 1) sc_read_row.nd rfl (Or.inl rfl) (pe_bm PySem.F.plainAttrs_str PySem.F.slot_str_split PySem.F.type_str_split mt_split (pv 0) (pa_cons pe_str pa_nil)))
      (pss_cons (ps_set (i := 2) sc_read_row.nd rfl (Or.inl rfl) (pe_ix ix_list (pv 1) pe_int (fun _ _ => rfl)))
      (pss_cons (ps_set (i := 3) sc_read_row.nd rfl (Or.inl rfl) (pe_slice sl_list (pv 1) (po_some pe_int) po_none))
      (pss_cons (ps_if (pt_cmpR op_eq (pv 2) pe_str (nomark _))
        (pss_one (ps_ret (pe_fnE C_read_bring passE hr (by rfl) (pa_cons (pv 3) pa_nil)))) pss_nil)
      (pss_cons (ps_if (pt_cmpR op_eq (pv 2) pe_str (nomark _))
        (pss_one (ps_ret (pe_op op_catA (pe_tup (pa_cons pe_str pa_nil)) (pe_fnE C_read_pair passE hr (by rfl) (pa_cons (pv 3) pa_nil))))) pss_nil)
      (pss_cons (ps_if (pt_cmpR op_eq (pv 2) pe_str (nomark _))
        (pss_one (ps_ret (pe_fnE C_read_set passE hr (by rfl) (pa_cons (pv 3) pa_nil)))) pss_nil)
      (pss_cons (ps_if (pt_cmpR op_eq (pv 2) pe_str (nomark _))
        (pss_one (ps_ret (pe_fnE C_read_say passE hr (by rfl) (pa_cons (pv 3) pa_nil)))) pss_nil)
      (pss_cons (ps_if (pt_cmpR op_eq (pv 2) pe_str (nomark _))
        (pss_one (ps_ret (pe_tup (pa_cons pe_str (pa_cons (pe_fnE C_read_sum passE hr (by rfl) (pa_cons (pv 3) pa_nil)) pa_nil))))) pss_nil)
      (pss_cons (ps_if (pt_cmpR op_eq (pv 2) pe_str (nomark _))
        (pss_one (ps_ret (pe_fnE C_read_ask passE hr (by rfl) (pa_cons (pv 3) pa_nil)))) pss_nil)
      (pss_cons (ps_if (pt_cmpR op_in_seq (pv 2) (pe_tup (pa_cons pe_str (pa_cons pe_str (pa_cons pe_str pa_nil)))) (by with_unfolding_all rfl))
        (pss_one (ps_ret (pe_tup (pa_cons (pv 2) (pa_cons (pe_fnE C_read_only_name passE hr (by rfl) (pa_cons (pv 3) pa_nil)) pa_nil))))) pss_nil)
      (pss_one (ps_raise1 X_NoRow hr (by rfl) hX.m_NoRow hX.k_NoRow (pa_cons pe_int pa_nil))))))))))))), ?_⟩
    refine ⟨_, rfl, rfl, _, _, rfl, rfl, (by decide +kernel), hx, fun l hl => ?_⟩
    generalize PySem.Txt.split x " " = ws at hw q hne ⊢
    obtain ⟨k, us, rfl⟩ : ∃ k us, ws = k :: us := by
      cases ws with
      | nil => exact absurd rfl hne
      | cons a b => exact ⟨a, b, rfl⟩
    refine ⟨_, rfl, l, _, _, _, rfl, rfl, SqL.of upd_same, atI_nat (j := 0) (v := .str k) rfl, ?_⟩
    refine ⟨_, rfl, _, rfl, l, _, rfl, SqL.of upd_same, fun d hd => ?_⟩
    have s1 := ((Same.refl H).new (o := .lst ((k :: us).map V.str)) hl).new (o := .lst (cutV ((k :: us).map V.str) (some 1) none)) hd
    have hd1 : upd (upd H l (.lst ((k :: us).map V.str))) d (.lst (cutV ((k :: us).map V.str) (some 1) none)) d = some (.lst (us.map V.str)) := by
      rw [upd_same]
      exact congrArg (fun z => some (HO.lst z)) (cut_from _ 1 (by simp))
    generalize upd (upd H l (.lst ((k :: us).map V.str))) d (.lst (cutV ((k :: us).map V.str) (some 1) none)) = H1 at s1 hd1 ⊢
    have hwu : Wok us := hw.drop 1
    have hE1 := hE.on s1
    by_cases e1 : k = "bring"
    · subst e1
      exact ⟨_, rfl, rfl, _, rfl, iteSE ⟨_, rfl, d, us, rfl, hd1, hwu, (fun rw r H2 e ho s2 hr' => q rw r H2 e ho (s1.trans s2) hr'), hE1⟩⟩
    refine ⟨_, rfl, rfl, _, rfl, iteSN e1 ?_⟩
    by_cases e2 : k = "give"
    · subst e2
      refine ⟨_, rfl, rfl, _, rfl, iteSE ?_⟩
      refine ⟨(by show 1 ≤ sizeLine; decide), fun a ha => ⟨_, rfl, d, us, rfl, upd_keep hd1 ha, hwu, (fun g o ego hg ho b H2 s2 hb => ?_), hE.on (s1.new ha)⟩⟩
      exact ⟨a, b, _, _, rfl, rfl, SqT.of (s2 _ _ upd_same), SqT.of hb, (by show 1 + 2 ≤ sizeLine; decide), (fun z => by cases z), (fun _ z => by cases z), fun _ _ r hr' => q (.give g o) r _ (by rw [ego]; rfl) ⟨hg, ho⟩ (((s1.new ha).trans s2).new hr') upd_same⟩
    refine ⟨_, rfl, rfl, _, rfl, iteSN e2 ?_⟩
    by_cases e3 : k = "set"
    · subst e3
      exact ⟨_, rfl, rfl, _, rfl, iteSE ⟨_, rfl, d, us, rfl, hd1, hwu, (fun rw r H2 e ho s2 hr' => q rw r H2 e ho (s1.trans s2) hr'), hE1⟩⟩
    refine ⟨_, rfl, rfl, _, rfl, iteSN e3 ?_⟩
    by_cases e4 : k = "say"
    · subst e4
      exact ⟨_, rfl, rfl, _, rfl, iteSE ⟨_, rfl, d, us, rfl, hd1, hwu, (fun rw r H2 e ho s2 hr' => q rw r H2 e ho (s1.trans s2) hr'), hE1⟩⟩
    refine ⟨_, rfl, rfl, _, rfl, iteSN e4 ?_⟩
    by_cases e5 : k = "need"
    · subst e5
      refine ⟨_, rfl, rfl, _, rfl, iteSE ⟨_, rfl, d, us, rfl, hd1, hwu, (fun ts t H2 hts hok s2 ht => ⟨(by show 2 ≤ sizeLine; decide), fun r hr' => ?_⟩), hE1⟩⟩
      exact q (.need ts) r _ (by show ("need" : Str) :: sumW ts = _; rw [hts]) hok ((s1.trans s2).new hr') ⟨t, upd_same, ht.mono (Tups.new hr')⟩
    refine ⟨_, rfl, rfl, _, rfl, iteSN e5 ?_⟩
    by_cases e6 : k = "ask"
    · subst e6
      exact ⟨_, rfl, rfl, _, rfl, iteSE ⟨_, rfl, d, us, rfl, hd1, hwu, (fun rw r H2 e ho s2 hr' => q rw r H2 e ho (s1.trans s2) hr'), hE1⟩⟩
    refine ⟨_, rfl, rfl, _, rfl, iteSN e6 ?_⟩
    refine ⟨_, rfl, (by show 3 ≤ sizeLine; decide), fun a ha => ⟨a, _, rfl, .inr (SqT.of upd_same), rfl, rfl, _, rfl, ?_⟩⟩
    by_cases e7 : k = "take" ∨ k = "part" ∨ k = "do"
    · rw [show (if false = true then !inV (V.str k) [V.str "take", V.str "part", V.str "do"] else inV (V.str k) [V.str "take", V.str "part", V.str "do"]) = true by rcases e7 with e | e | e <;> subst e <;> decide +kernel]
      refine iteT ⟨_, rfl, _, rfl, d, us, rfl, upd_keep hd1 ha, hwu, (fun o eo ho H2 s2 => ⟨(by show 2 ≤ sizeLine; decide), fun r hr' => ?_⟩), hE.on (s1.new ha)⟩
      have s3 := ((s1.new ha).trans s2).new (o := .tup [.str k, .str o]) hr'
      rcases e7 with e | e | e
      · subst e
        exact q (.take o) r _ (by rw [eo]; rfl) ho s3 upd_same
      · subst e
        exact q (.part o) r _ (by rw [eo]; rfl) ho s3 upd_same
      · subst e
        exact q (.doo o) r _ (by rw [eo]; rfl) ho s3 upd_same
    · rw [show (if false = true then !inV (V.str k) [V.str "take", V.str "part", V.str "do"] else inV (V.str k) [V.str "take", V.str "part", V.str "do"]) = false by
        have n1 : k ≠ "take" := fun z => e7 (.inl z)
        have n2 : k ≠ "part" := fun z => e7 (.inr (.inl z))
        have n3 : k ≠ "do" := fun z => e7 (.inr (.inr z))
        rw [if_neg Bool.false_ne_true, show [V.str "take", V.str "part", V.str "do"] = ([("take" : Str), "part", "do"]).map V.str from rfl, inV_strs]
        exact decide_eq_false (by simp [n1, n2, n3])]
      exact iteF (hE.on (s1.new ha)).rais
theorem ok_sum_words (T : Txt K mg) : L2.Cl P w K mg base 1 "sum_words" ["terms"] spSumWords := by
  refine Cl.of T.d_sum_words sc_sum_words (fun vs H Q E h => ?_) (fun _ _ _ _ _ _ us hl => match us, hl with | [_], _ => rfl) (fun f cdv A outer s H vs Q E hr h => ?_)
  · obtain ⟨t, ts, rfl, _⟩ := h
    rfl
  · obtain ⟨t, ts, rfl, ⟨⟨vs, ht, hts⟩, lo, hi⟩, q⟩ := h
    have hvl : vs.length = ts.length := Paired.length hts
    refine ⟨_, (pss_cons (ps_set (i := 1) sc_sum_words.nd rfl (Or.inl rfl) (pe_lst pa_nil))
      (pss_cons (ps_for PassesOwn.never rfl (pi_tup (pv 0)) (pg_tup rfl (pgs_cons (pg_name (i := 2) sc_sum_words.nd rfl (Or.inl rfl)) (pgs_cons (pg_name (i := 3) sc_sum_words.nd rfl (Or.inl rfl)) pgs_nil)))
        (pss_cons (ps_if (pt_truth (pv 1) (fun _ => rfl))
          (pss_one (ps_expr (pe_bm PySem.F.plainAttrs_list PySem.F.slot_list_append PySem.F.type_list_append mt_append (pv 1) (pa_cons (pe_ifExp (pt_cmpR op_eq (pv 2) pe_int (nomark _)) pe_str pe_str) pa_nil)))) pss_nil)
        (pss_one (ps_expr (pe_bm PySem.F.plainAttrs_list PySem.F.slot_list_append PySem.F.type_list_append mt_append (pv 1) (pa_cons (pe_callTy call_str_th (by rfl) T.n_str boot_str (pa_cons (pv 3) pa_nil)) pa_nil))))))
      (pss_one (ps_ret (pe_callTy call_tuple_of (by rfl) T.n_tuple boot_tuple (pa_cons (pv 1) pa_nil)))))), ?_⟩
    refine ⟨(by show 0 ≤ sizeLine; decide), fun l hl => ?_⟩
    have s1 : Same H (upd H l (.lst [])) := (Same.refl H).new hl
    refine ⟨_, rfl, t, rfl, ⟨_, SqT.of (s1 _ _ ht)⟩, for_tup (K := K) (a := t) (xs := vs) (fun i σ H2 => ∃ (v2 v3 : Option V), σ = [some (.ref t), some (.ref l), v2, v3] ∧ Same H H2 ∧ H2 l = some (.lst ((sumW (ts.take i)).map V.str)))
      ⟨none, none, rfl, s1, upd_same⟩ (fun i σ H2 _ ⟨_, _, _, s2, _⟩ => SqT.of (s2 _ _ ht)) ?_ ?_⟩
    · rintro i y σ H2 hx ⟨v2, v3, rfl, s2, hl2⟩
      have hi' : i < vs.length := (List.getElem?_eq_some_iff.mp hx).1
      obtain ⟨tm, htm, p, ep, hp, hok⟩ := Paired.get? hts hx
      subst ep
      have hp2 := s2 _ _ hp
      have hlt : (ts.take i).length = i := by simp; omega
      refine ⟨p, _, rfl, SqT.of hp2, rfl, _, _, rfl, _, _, rfl, rfl, ?_⟩
      by_cases h0 : i = 0
      · subst h0
        refine ⟨_, rfl, _, .inl ⟨_, SqL.of hl2, rfl⟩, iteF ?_⟩
        refine ⟨_, rfl, .inl ⟨rfl, _, SqL.of hl2⟩, _, rfl, _, rfl, hok, ?_⟩
        refine ⟨l, _, _, rfl, rfl, hl2, small1000 (by simp [sumW]), ⟨_, _, rfl, s2.put hl, ?_⟩⟩
        rw [upd_same, take_succ_get htm]
        rfl
      · have hne : ts.take i ≠ [] := by intro z; rw [z] at hlt; simp at hlt; omega
        have hw := sumW_len (ts := ts.take i) (by omega)
        have hne2 : (sumW (ts.take i)).map V.str ≠ [] := by intro z; have := congrArg List.length z; simp at this; rw [this] at hw; simp at hw; omega
        refine ⟨_, rfl, _, .inl ⟨_, SqL.of hl2, rfl⟩, ?_⟩
        rw [show (!((sumW (ts.take i)).map V.str).isEmpty) = true by cases e : (sumW (ts.take i)).map V.str with | nil => exact absurd e hne2 | cons _ _ => rfl]
        refine iteT ?_
        refine ⟨_, rfl, .inl ⟨rfl, _, SqL.of hl2⟩, _, rfl, rfl, _, rfl, ite2I (fun e1 => ?_) (fun e1 => ?_)⟩
        all_goals
          refine ⟨l, _, _, rfl, rfl, hl2, small1000 (by rw [List.length_map]; omega), ?_⟩
          refine ⟨_, rfl, .inl ⟨rfl, _, SqL.of upd_same⟩, _, rfl, _, rfl, hok, ?_⟩
          refine ⟨l, _, _, rfl, rfl, upd_same, small1000 (by simp; omega), ⟨_, _, rfl, (s2.put hl).put hl, ?_⟩⟩
          rw [upd_same, take_succ_get htm, sumW_snoc tm.1 tm.2 hne]
          simp [sgS, e1]
    · rintro σ H2 ⟨v2, v3, rfl, s2, hl2⟩
      refine ⟨_, rfl, l, _, rfl, .inl ⟨SqL.of hl2, fun p hp => ?_⟩⟩
      refine q p _ (s2.new hp) ?_
      rw [upd_same, hvl, List.take_length]
theorem ok_pair_words (T : Txt K mg) : L2.Cl P w K mg base 1 "pair_words" ["pairs"] spPairWords := by
  refine Cl.of T.d_pair_words sc_pair_words (fun vs H Q E h => ?_) (fun _ _ _ _ _ _ us hl => match us, hl with | [_], _ => rfl) (fun f cdv A outer s H vs Q E hr h => ?_)
  · obtain ⟨t, ps, rfl, _⟩ := h
    rfl
  · obtain ⟨t, ps, rfl, ⟨⟨vs, ht, hts⟩, hi⟩, q⟩ := h
    have hvl : vs.length = ps.length := Paired.length hts
    refine ⟨_, (pss_cons (ps_set (i := 1) sc_pair_words.nd rfl (Or.inl rfl) (pe_lst pa_nil))
      (pss_cons (ps_for PassesOwn.never rfl (pi_tup (pv 0)) (pg_tup rfl (pgs_cons (pg_name (i := 2) sc_pair_words.nd rfl (Or.inl rfl)) (pgs_cons (pg_name (i := 3) sc_pair_words.nd rfl (Or.inl rfl)) pgs_nil)))
        (pss_one (ps_expr (pe_bm PySem.F.plainAttrs_list PySem.F.slot_list_extend PySem.F.type_list_extend mt_extend (pv 1) (pa_cons (pe_lst (pa_cons (pv 2) (pa_cons pe_str (pa_cons (pv 3) pa_nil)))) pa_nil)))))
      (pss_one (ps_ret (pe_callTy call_tuple_of (by rfl) T.n_tuple boot_tuple (pa_cons (pv 1) pa_nil)))))), ?_⟩
    refine ⟨(by show 0 ≤ sizeLine; decide), fun l hl => ?_⟩
    have s1 : Same H (upd H l (.lst [])) := (Same.refl H).new hl
    refine ⟨_, rfl, t, rfl, ⟨_, SqT.of (s1 _ _ ht)⟩, for_tup (K := K) (a := t) (xs := vs) (fun i σ H2 => ∃ (v2 v3 : Option V), σ = [some (.ref t), some (.ref l), v2, v3] ∧ Same H H2 ∧ H2 l = some (.lst ((pairW (ps.take i)).map V.str)))
      ⟨none, none, rfl, s1, upd_same⟩ (fun i σ H2 _ ⟨_, _, _, s2, _⟩ => SqT.of (s2 _ _ ht)) ?_ ?_⟩
    · rintro i y σ H2 hx ⟨v2, v3, rfl, s2, hl2⟩
      have hi' : i < vs.length := (List.getElem?_eq_some_iff.mp hx).1
      obtain ⟨tm, htm, p, ep, hp, hok⟩ := Paired.get? hts hx
      subst ep
      have hp2 := s2 _ _ hp
      have hlt : (ps.take i).length = i := by simp; omega
      refine ⟨p, _, rfl, SqT.of hp2, rfl, _, _, rfl, _, _, rfl, rfl, ?_⟩
      refine ⟨_, rfl, .inl ⟨rfl, _, SqL.of hl2⟩, _, rfl, _, rfl, (by show 3 ≤ sizeLine; decide), fun b hb => ?_⟩
      refine ⟨l, b, _, _, rfl, rfl, upd_keep hl2 hb, upd_same, ?_, ⟨_, _, rfl, (s2.new hb).put hl, ?_⟩⟩
      · rw [List.length_map, pairW_len, hlt]
        exact Nat.le_of_lt (small1000 (by simp; omega))
      · rw [upd_same, take_succ_get htm, pairW_snoc tm.1 tm.2]
        simp
    · rintro σ H2 ⟨v2, v3, rfl, s2, hl2⟩
      refine ⟨_, rfl, l, _, rfl, .inl ⟨SqL.of hl2, fun p hp => ?_⟩⟩
      refine q p _ (s2.new hp) ?_
      rw [upd_same, hvl, List.take_length]
theorem ok_when_words (T : Txt K mg) : L2.Cl P w K mg base 1 "when_words" ["when"] spWhenWords := by
  refine Cl.of T.d_when_words sc_when_words (fun vs H Q E h => ?_) (fun _ _ _ _ _ _ us hl => match us, hl with | [_], _ => rfl) (fun f cdv A outer s H vs Q E hr h => ?_)
  · obtain ⟨o, rfl, _⟩ := h
    rfl
  · obtain ⟨o, rfl, q⟩ := h
    refine ⟨_, (pss_cons (ps_if (pt_cmp (pc_isN (pv 0)))
        (pss_one (ps_ret (pe_tup pa_nil))) pss_nil)
      (pss_one (ps_ret (pe_tup (pa_cons pe_str (pa_cons (pv 0) pa_nil)))))), ?_⟩
    cases o with
    | none =>
      refine ⟨_, rfl, _, rfl, iteT ?_⟩
      exact ⟨(by show 0 ≤ sizeLine; decide), fun p hp => q p _ ((Same.refl H).new hp) upd_same⟩
    | some x =>
      refine ⟨_, rfl, _, rfl, iteF ?_⟩
      exact ⟨_, rfl, (by show 2 ≤ sizeLine; decide), fun p hp => q p _ ((Same.refl H).new hp) upd_same⟩
theorem ok_words_of (T : Txt K mg) : L2.Cl P w K mg base 2 "words_of" ["row"] spWordsOf := by
  have C_pair_words := ok_pair_words (P := P) (w := w) (base := base) T
  have C_sum_words := ok_sum_words (P := P) (w := w) (base := base) T
  have C_when_words := ok_when_words (P := P) (w := w) (base := base) T
  refine Cl.of T.d_words_of sc_words_of (fun vs H Q E h => ?_) (fun _ _ _ _ _ _ us hl => match us, hl with | [_], _ => rfl) (fun f cdv A outer s H vs Q E hr h => ?_)
  · obtain ⟨r, ws, rfl, _⟩ := h
    rfl
  · obtain ⟨r, ws, rfl, hrow, q⟩ := h
    have hwk := hrow.ok
    have hhi := hwk.hi
    refine ⟨_, (pss_cons (ps_set (i := 1) sc_words_of.nd rfl (Or.inl rfl) (pe_ix ix_tup (pv 0) pe_int (fun _ _ => rfl)))
      (pss_cons (ps_if (pt_cmpR op_eq (pv 1) pe_str (nomark _))
        (pss_one (ps_ret (pe_op op_catA (pe_tup (pa_cons pe_str (pa_cons (pe_ix ix_tup (pv 0) pe_int (fun _ _ => rfl)) pa_nil))) (pe_fn C_pair_words hr (by rfl) (pa_cons (pe_ix ix_tup (pv 0) pe_int (fun _ _ => rfl)) pa_nil))))) pss_nil)
      (pss_cons (ps_if (pt_cmpR op_eq (pv 1) pe_str (nomark _))
        (pss_one (ps_ret (pe_tup (pa_cons pe_str (pa_cons (pe_ix ix_tup (pv 0) pe_int (fun _ _ => rfl)) (pa_cons pe_str (pa_cons (pe_ix ix_tup (pv 0) pe_int (fun _ _ => rfl)) pa_nil))))))) pss_nil)
      (pss_cons (ps_if (pt_cmpR op_eq (pv 1) pe_str (nomark _))
        (pss_one (ps_ret (pe_op op_catA (pe_tup (pa_cons pe_str (pa_cons (pe_ix ix_tup (pv 0) pe_int (fun _ _ => rfl)) (pa_cons pe_str pa_nil)))) (pe_fn C_sum_words hr (by rfl) (pa_cons (pe_ix ix_tup (pv 0) pe_int (fun _ _ => rfl)) pa_nil))))) pss_nil)
      (pss_cons (ps_if (pt_cmpR op_eq (pv 1) pe_str (nomark _))
        (pss_one (ps_ret (pe_op op_catA (pe_op op_catA (pe_tup (pa_cons pe_str pa_nil)) (pe_fn C_sum_words hr (by rfl) (pa_cons (pe_ix ix_tup (pv 0) pe_int (fun _ _ => rfl)) pa_nil))) (pe_fn C_when_words hr (by rfl) (pa_cons (pe_ix ix_tup (pv 0) pe_int (fun _ _ => rfl)) pa_nil))))) pss_nil)
      (pss_cons (ps_if (pt_cmpR op_eq (pv 1) pe_str (nomark _))
        (pss_one (ps_ret (pe_op op_catA (pe_tup (pa_cons pe_str pa_nil)) (pe_fn C_sum_words hr (by rfl) (pa_cons (pe_ix ix_tup (pv 0) pe_int (fun _ _ => rfl)) pa_nil))))) pss_nil)
      (pss_cons (ps_if (pt_cmpR op_eq (pv 1) pe_str (nomark _))
        (pss_one (ps_ret (pe_op op_catA (pe_tup (pa_cons pe_str (pa_cons (pe_ix ix_tup (pv 0) pe_int (fun _ _ => rfl)) pa_nil))) (pe_fn C_when_words hr (by rfl) (pa_cons (pe_ix ix_tup (pv 0) pe_int (fun _ _ => rfl)) pa_nil))))) pss_nil)
      (pss_one (ps_ret (pe_tup (pa_cons (pv 1) (pa_cons (pe_ix ix_tup (pv 0) pe_int (fun _ _ => rfl)) pa_nil)))))))))))), ?_⟩
    cases hrow with
    | @bring part t ps h hp n =>
      refine ⟨_, rfl, r, _, _, _, rfl, rfl, SqT.of h, rfl, ?_⟩
      refine ⟨_, rfl, rfl, _, rfl, iteSE ?_⟩
      refine ⟨_, rfl, r, _, _, _, rfl, rfl, SqT.of h, rfl, (by show 2 ≤ sizeLine; decide), fun p1 hp1 => ?_⟩
      have s1 : Same H (upd H p1 (.tup [.str "bring", .str part])) := (Same.refl H).new hp1
      refine ⟨_, rfl, r, _, _, _, rfl, rfl, SqT.of (s1 _ _ h), rfl, t, ps, rfl, hp.mono s1.tups, fun p2 H2 s2 h2 => ?_⟩
      have s12 := s1.trans s2
      refine ⟨p1, p2, _, _, rfl, rfl, SqT.of (s2 _ _ upd_same), SqT.of h2, ?_, (fun z => by cases z), (fun _ z => ?_), fun _ _ p3 hp3 => ?_⟩
      · simp only [List.length_cons, List.length_map, List.length_nil] at hhi ⊢
        exact Nat.le_of_lt (small1000 (by omega))
      · refine q p1 H2 s12 ?_
        rw [s2 _ _ upd_same]
        show some (HO.tup [V.str "bring", V.str part]) = some (HO.tup (V.str "bring" :: V.str part :: (pairW ps).map V.str))
        rw [z]
      · exact q p3 _ (s12.new hp3) upd_same
    | @give own part h n m =>
      refine ⟨_, rfl, r, _, _, _, rfl, rfl, SqT.of h, rfl, ?_⟩
      refine ⟨_, rfl, rfl, _, rfl, iteSN (by decide +kernel) ?_⟩
      refine ⟨_, rfl, rfl, _, rfl, iteSE ?_⟩
      exact ⟨_, rfl, r, _, _, _, rfl, rfl, SqT.of h, rfl, _, rfl, r, _, _, _, rfl, rfl, SqT.of h, rfl, (by show 4 ≤ sizeLine; decide), fun p1 hp1 => q p1 _ ((Same.refl H).new hp1) upd_same⟩
    | @set own t ts h ht n =>
      refine ⟨_, rfl, r, _, _, _, rfl, rfl, SqT.of h, rfl, ?_⟩
      refine ⟨_, rfl, rfl, _, rfl, iteSN (by decide +kernel) ?_⟩
      refine ⟨_, rfl, rfl, _, rfl, iteSN (by decide +kernel) ?_⟩
      refine ⟨_, rfl, rfl, _, rfl, iteSE ?_⟩
      refine ⟨_, rfl, r, _, _, _, rfl, rfl, SqT.of h, rfl, (by show 3 ≤ sizeLine; decide), fun p1 hp1 => ?_⟩
      have s1 : Same H (upd H p1 (.tup [.str "set", .str own, .str "="])) := (Same.refl H).new hp1
      refine ⟨_, rfl, r, _, _, _, rfl, rfl, SqT.of (s1 _ _ h), rfl, t, ts, rfl, ht.mono s1.tups, fun p2 H2 s2 h2 => ?_⟩
      have s12 := s1.trans s2
      refine ⟨p1, p2, _, _, rfl, rfl, SqT.of (s2 _ _ upd_same), SqT.of h2, ?_, (fun z => by cases z), (fun _ z => ?_), fun _ _ p3 hp3 => ?_⟩
      · simp only [List.length_cons, List.length_map, List.length_nil] at hhi ⊢
        exact Nat.le_of_lt (small1000 (by omega))
      · refine q p1 H2 s12 ?_
        rw [s2 _ _ upd_same]
        show some (HO.tup [V.str "set", V.str own, V.str "="]) = some (HO.tup (V.str "set" :: V.str own :: V.str "=" :: (sumW ts).map V.str))
        rw [z]
      · exact q p3 _ (s12.new hp3) upd_same
    | @say t ts o h ht n =>
      refine ⟨_, rfl, r, _, _, _, rfl, rfl, SqT.of h, rfl, ?_⟩
      refine ⟨_, rfl, rfl, _, rfl, iteSN (by decide +kernel) ?_⟩
      refine ⟨_, rfl, rfl, _, rfl, iteSN (by decide +kernel) ?_⟩
      refine ⟨_, rfl, rfl, _, rfl, iteSN (by decide +kernel) ?_⟩
      refine ⟨_, rfl, rfl, _, rfl, iteSE ?_⟩
      refine ⟨(by show 1 ≤ sizeLine; decide), fun p1 hp1 => ?_⟩
      have s1 : Same H (upd H p1 (.tup [.str "say"])) := (Same.refl H).new hp1
      have hsl := sumW_len ht.lo
      have hlo := ht.lo
      have hwl := whenW_len o
      refine ⟨_, rfl, r, _, _, _, rfl, rfl, SqT.of (s1 _ _ h), rfl, t, ts, rfl, ht.mono s1.tups, fun p2 H2 s2 h2 => ?_⟩
      have s12 := s1.trans s2
      have hne : (sumW ts).map V.str ≠ [] := by intro z; have := congrArg List.length z; simp at this; rw [this] at hsl; simp at hsl; omega
      simp only [List.length_cons, List.length_append] at hhi
      refine ⟨p1, p2, _, _, rfl, rfl, SqT.of (s2 _ _ upd_same), SqT.of h2, ?_, (fun z => by cases z), (fun _ z => absurd z hne), fun _ _ p3 hp3 => ?_⟩
      · simp only [List.length_cons, List.length_map, List.length_nil] at hhi ⊢
        exact Nat.le_of_lt (small1000 (by omega))
      have s3 : Same H (upd H2 p3 (.tup ([.str "say"] ++ (sumW ts).map V.str))) := s12.new hp3
      refine ⟨_, rfl, r, _, _, _, rfl, rfl, SqT.of (s3 _ _ h), rfl, o, rfl, fun p4 H4 s4 h4 => ?_⟩
      refine ⟨p3, p4, _, _, rfl, rfl, SqT.of (s4 _ _ upd_same), SqT.of h4, ?_, (fun z => by cases z), (fun _ z => ?_), fun _ _ p5 hp5 => ?_⟩
      · simp only [List.length_cons, List.length_map, List.length_append, List.length_nil] at hhi ⊢
        exact Nat.le_of_lt (small1000 (by omega))
      · refine q p3 H4 (s3.trans s4) ?_
        rw [s4 _ _ upd_same]
        show some (HO.tup ([V.str "say"] ++ (sumW ts).map V.str)) = some (HO.tup (V.str "say" :: (sumW ts ++ whenW o).map V.str))
        rw [List.map_append, z, List.append_nil]
        rfl
      · refine q p5 _ ((s3.trans s4).new hp5) ?_
        rw [upd_same]
        show some (HO.tup ([V.str "say"] ++ (sumW ts).map V.str ++ (whenW o).map V.str)) = some (HO.tup (V.str "say" :: (sumW ts ++ whenW o).map V.str))
        rw [List.map_append]
        rfl
    | @need t ts h ht =>
      refine ⟨_, rfl, r, _, _, _, rfl, rfl, SqT.of h, rfl, ?_⟩
      refine ⟨_, rfl, rfl, _, rfl, iteSN (by decide +kernel) ?_⟩
      refine ⟨_, rfl, rfl, _, rfl, iteSN (by decide +kernel) ?_⟩
      refine ⟨_, rfl, rfl, _, rfl, iteSN (by decide +kernel) ?_⟩
      refine ⟨_, rfl, rfl, _, rfl, iteSN (by decide +kernel) ?_⟩
      refine ⟨_, rfl, rfl, _, rfl, iteSE ?_⟩
      refine ⟨(by show 1 ≤ sizeLine; decide), fun p1 hp1 => ?_⟩
      have s1 : Same H (upd H p1 (.tup [.str "need"])) := (Same.refl H).new hp1
      refine ⟨_, rfl, r, _, _, _, rfl, rfl, SqT.of (s1 _ _ h), rfl, t, ts, rfl, ht.mono s1.tups, fun p2 H2 s2 h2 => ?_⟩
      have s12 := s1.trans s2
      refine ⟨p1, p2, _, _, rfl, rfl, SqT.of (s2 _ _ upd_same), SqT.of h2, ?_, (fun z => by cases z), (fun _ z => ?_), fun _ _ p3 hp3 => ?_⟩
      · simp only [List.length_cons, List.length_map, List.length_nil] at hhi ⊢
        exact Nat.le_of_lt (small1000 (by omega))
      · refine q p1 H2 s12 ?_
        rw [s2 _ _ upd_same]
        show some (HO.tup [V.str "need"]) = some (HO.tup (V.str "need" :: (sumW ts).map V.str))
        rw [z]
      · exact q p3 _ (s12.new hp3) upd_same
    | @ask part o h m n =>
      refine ⟨_, rfl, r, _, _, _, rfl, rfl, SqT.of h, rfl, ?_⟩
      refine ⟨_, rfl, rfl, _, rfl, iteSN (by decide +kernel) ?_⟩
      refine ⟨_, rfl, rfl, _, rfl, iteSN (by decide +kernel) ?_⟩
      refine ⟨_, rfl, rfl, _, rfl, iteSN (by decide +kernel) ?_⟩
      refine ⟨_, rfl, rfl, _, rfl, iteSN (by decide +kernel) ?_⟩
      refine ⟨_, rfl, rfl, _, rfl, iteSN (by decide +kernel) ?_⟩
      refine ⟨_, rfl, rfl, _, rfl, iteSE ?_⟩
      refine ⟨_, rfl, r, _, _, _, rfl, rfl, SqT.of h, rfl, (by show 2 ≤ sizeLine; decide), fun p1 hp1 => ?_⟩
      have s1 : Same H (upd H p1 (.tup [.str "ask", .str part])) := (Same.refl H).new hp1
      refine ⟨_, rfl, r, _, _, _, rfl, rfl, SqT.of (s1 _ _ h), rfl, o, rfl, fun p2 H2 s2 h2 => ?_⟩
      have s12 := s1.trans s2
      refine ⟨p1, p2, _, _, rfl, rfl, SqT.of (s2 _ _ upd_same), SqT.of h2, ?_, (fun z => by cases z), (fun _ z => ?_), fun _ _ p3 hp3 => ?_⟩
      · simp only [List.length_cons, List.length_map, List.length_nil] at hhi ⊢
        exact Nat.le_of_lt (small1000 (by omega))
      · refine q p1 H2 s12 ?_
        rw [s2 _ _ upd_same]
        show some (HO.tup [V.str "ask", V.str part]) = some (HO.tup (V.str "ask" :: V.str part :: (whenW o).map V.str))
        rw [z]
      · exact q p3 _ (s12.new hp3) upd_same
    | @two k x h hk n =>
      have hn := (show ∀ k ∈ (["take", "part", "do"] : List Str), ¬ k = "bring" ∧ ¬ k = "give" ∧ ¬ k = "set" ∧ ¬ k = "say" ∧ ¬ k = "need" ∧ ¬ k = "ask" by decide +kernel) k hk
      obtain ⟨n1, n2, n3, n4, n5, n6⟩ := hn
      refine ⟨_, rfl, r, _, _, _, rfl, rfl, SqT.of h, rfl, ?_⟩
      refine ⟨_, rfl, rfl, _, rfl, iteSN n1 ?_⟩
      refine ⟨_, rfl, rfl, _, rfl, iteSN n2 ?_⟩
      refine ⟨_, rfl, rfl, _, rfl, iteSN n3 ?_⟩
      refine ⟨_, rfl, rfl, _, rfl, iteSN n4 ?_⟩
      refine ⟨_, rfl, rfl, _, rfl, iteSN n5 ?_⟩
      refine ⟨_, rfl, rfl, _, rfl, iteSN n6 ?_⟩
      exact ⟨_, rfl, _, rfl, r, _, _, _, rfl, rfl, SqT.of h, rfl, (by show 2 ≤ sizeLine; decide), fun p1 hp1 => q p1 _ ((Same.refl H).new hp1) upd_same⟩
theorem ok_shown_row (T : Txt K mg) : L2.Cl P w K mg base 3 "shown_row" ["row"] spShown := by
  have C_words_of := ok_words_of (P := P) (w := w) (base := base) T
  refine Cl.of T.d_shown_row sc_shown_row (fun vs H Q E h => ?_) (fun _ _ _ _ _ _ us hl => match us, hl with | [_], _ => rfl) (fun f cdv A outer s H vs Q E hr h => ?_)
  · obtain ⟨r, ws, rfl, _⟩ := h
    rfl
  · obtain ⟨r, ws, rfl, hrow, q⟩ := h
    have hwk := hrow.ok
    have hw := weight_ok hwk
    have hhi := hwk.hi
    refine ⟨_, (pss_one (ps_ret (pe_bm PySem.F.plainAttrs_str PySem.F.slot_str_join PySem.F.type_str_join mt_join pe_str (pa_cons (pe_fn C_words_of hr (by rfl) (pa_cons (pv 0) pa_nil)) pa_nil)))), ?_⟩
    exact ⟨rfl, _, rfl, r, ws, rfl, hrow, fun p H1 s1 h1 => ⟨_, p, ws, rfl, rfl, .inl (SqT.of h1), (by decide +kernel), (by omega), q H1 s1⟩⟩
theorem str_d {H : Hp} {d : Nat} (x : Str) : EqD K H d (.str x) (.str x) := by
  cases d with
  | zero => exact ⟨rfl, rfl⟩
  | succ d => exact .inl ⟨rfl, rfl⟩
theorem opt_d {H : Hp} {d : Nat} (o : Option Str) : EqD K H d (optV o) (optV o) := by
  cases o with
  | some x => exact str_d x
  | none =>
    cases d with
    | zero => exact ⟨rfl, rfl⟩
    | succ d => exact .inl ⟨rfl, rfl⟩
theorem paired_d {α : Type} {H : Hp} {d : Nat} {F G : V → α → Prop} (h : ∀ v u t, F v t → G u t → EqD K H d v u) : ∀ {xs ys : List V} {ts : List α}, Paired F xs ts → Paired G ys ts → Paired (EqD K H d) xs ys
  | _, _, _, .nil, .nil => .nil
  | _, _, _, .cons a b, .cons c e => .cons (h _ _ _ a c) (paired_d h b e)
theorem term_d {H : Hp} {v u : V} {t : Int × Th} (a : TermAt H v t) (b : TermAt H u t) : EqD K H 1 v u := by
  obtain ⟨p, rfl, h1, _⟩ := a
  obtain ⟨q, rfl, h2, _⟩ := b
  refine .inr ⟨p, q, _, _, rfl, rfl, SqT.of h1, SqT.of h2, .cons ⟨rfl, rfl⟩ (.cons ?_ .nil)⟩
  cases t.2 with
  | num n => exact ⟨rfl, rfl⟩
  | nam x => exact ⟨rfl, rfl⟩
theorem terms_d {H : Hp} {t u : Addr} {ts : List (Int × Th)} (a : TermsAt H t ts) (b : TermsAt H u ts) : EqD K H 2 (.ref t) (.ref u) := by
  obtain ⟨⟨vs, h1, h2⟩, _, hi⟩ := a
  obtain ⟨⟨us, h3, h4⟩, _, _⟩ := b
  exact .inr ⟨t, u, vs, us, rfl, rfl, SqT.of h1, SqT.of h3, paired_d (F := TermAt H) (G := TermAt H) (fun _ _ _ a b => term_d a b) h2 h4⟩
theorem pair_d {H : Hp} {v u : V} {t : Str × Str} (a : PairAt H v t) (b : PairAt H u t) : EqD K H 1 v u := by
  obtain ⟨p, rfl, h1, _⟩ := a
  obtain ⟨q, rfl, h2, _⟩ := b
  exact .inr ⟨p, q, _, _, rfl, rfl, SqT.of h1, SqT.of h2, .cons ⟨rfl, rfl⟩ (.cons ⟨rfl, rfl⟩ .nil)⟩
theorem pairs_d {H : Hp} {t u : Addr} {ts : List (Str × Str)} (a : PairsAt H t ts) (b : PairsAt H u ts) : EqD K H 2 (.ref t) (.ref u) := by
  obtain ⟨⟨vs, h1, h2⟩, hi⟩ := a
  obtain ⟨⟨us, h3, h4⟩, _⟩ := b
  exact .inr ⟨t, u, vs, us, rfl, rfl, SqT.of h1, SqT.of h3, paired_d (F := PairAt H) (G := PairAt H) (fun _ _ _ a b => pair_d a b) h2 h4⟩
theorem row_d {H : Hp} {r u : Addr} {rw : Rw} (a : RowAt H r rw) (b : RowAt H u rw) : EqD K H 3 (.ref r) (.ref u) := by
  cases rw with
  | bring p ps => obtain ⟨t, h1, h2⟩ := a; obtain ⟨t', h3, h4⟩ := b; exact .inr ⟨r, u, _, _, rfl, rfl, SqT.of h1, SqT.of h3, .cons (str_d _) (.cons (str_d _) (.cons (pairs_d h2 h4) .nil))⟩
  | give o g => exact .inr ⟨r, u, _, _, rfl, rfl, SqT.of a, SqT.of b, .cons (str_d _) (.cons (str_d _) (.cons (str_d _) .nil))⟩
  | set o ts => obtain ⟨t, h1, h2⟩ := a; obtain ⟨t', h3, h4⟩ := b; exact .inr ⟨r, u, _, _, rfl, rfl, SqT.of h1, SqT.of h3, .cons (str_d _) (.cons (str_d _) (.cons (terms_d h2 h4) .nil))⟩
  | take o => exact .inr ⟨r, u, _, _, rfl, rfl, SqT.of a, SqT.of b, .cons (str_d _) (.cons (str_d _) .nil)⟩
  | say ts z => obtain ⟨t, h1, h2⟩ := a; obtain ⟨t', h3, h4⟩ := b; exact .inr ⟨r, u, _, _, rfl, rfl, SqT.of h1, SqT.of h3, .cons (str_d _) (.cons (terms_d h2 h4) (.cons (opt_d z) .nil))⟩
  | need ts => obtain ⟨t, h1, h2⟩ := a; obtain ⟨t', h3, h4⟩ := b; exact .inr ⟨r, u, _, _, rfl, rfl, SqT.of h1, SqT.of h3, .cons (str_d _) (.cons (terms_d h2 h4) .nil)⟩
  | ask p z => exact .inr ⟨r, u, _, _, rfl, rfl, SqT.of a, SqT.of b, .cons (str_d _) (.cons (str_d _) (.cons (opt_d z) .nil))⟩
  | part p => exact .inr ⟨r, u, _, _, rfl, rfl, SqT.of a, SqT.of b, .cons (str_d _) (.cons (str_d _) .nil)⟩
  | doo p => exact .inr ⟨r, u, _, _, rfl, rfl, SqT.of a, SqT.of b, .cons (str_d _) (.cons (str_d _) .nil)⟩
structure Drawn (ws : List Str) : Prop where
  ne : ws ≠ []
  few : ws.length ≤ 20
  wd : ∀ x ∈ ws, 32 ∉ x.cps.toList ∧ x.length ≤ 200
theorem Drawn.ok {ws : List Str} (h : Drawn ws) : Wok ws := ⟨by have := h.few; omega, fun x hx => by have := (h.wd x hx).2; omega⟩
theorem blank : (" " : Str) = ⟨#[32]⟩ := by decide +kernel
theorem Drawn.split {ws : List Str} (h : Drawn ws) : PySem.Txt.split (Str.join " " ws) " " = ws := by
  rw [blank]
  exact split_join h.ne fun a ha hc => (h.wd a ha).1 hc
theorem Drawn.sum {ws : List Str} (h : ∀ x ∈ ws, 32 ∉ x.cps.toList ∧ x.length ≤ 200) : (ws.map (·.length)).sum ≤ 200 * ws.length := by
  induction ws with
  | nil => simp
  | cons a r ih =>
    have h1 := (h a List.mem_cons_self).2
    have h2 := ih fun x hx => h x (List.mem_cons_of_mem _ hx)
    simp only [List.map_cons, List.sum_cons, List.length_cons]
    omega
theorem Drawn.len {ws : List Str} (h : Drawn ws) : (Str.join " " ws).length ≤ 5000 := by
  have h1 := StrLaws.join_length_le " " ws
  have h2 := Drawn.sum h.wd
  have h3 := h.few
  have h4 : (" " : Str).length = 1 := by decide +kernel
  rw [h4] at h1
  omega
def Good (ws : List Str) (rw : Rw) : Prop := RwOk rw ∧ rowW rw = ws
def spRead5 : Sp := fun vs H Q _ => ∃ ws : List Str, vs = [.str (Str.join " " ws)] ∧ Drawn ws ∧ ((∃ rw, Good ws rw ∧ ∀ (l r : Addr) (H' : Hp), Same H H' → H' l = some (.lst [.ref r]) → RowAt H' r rw → Q (.ref l) H') ∨ ((¬ ∃ rw, Good ws rw) ∧ ∀ H', Same H H' → Q .non H'))
theorem ok_read5 (T : Txt K mg) {A : Adr} (hX : XTxt K mg A) : L2.Cl P w K mg base 8 "_law_read" ["_law_text"] spRead5 := by
  refine Cl.of T.d_law_read sc_law_read (fun vs H Q E h => ?_) (fun _ _ _ _ _ _ us hl => match us, hl with | [_], _ => rfl) (fun f cdv A0 outer s H vs Q E hr h => ?_)
  · obtain ⟨x, rfl, _⟩ := h
    rfl
  · obtain ⟨ws, rfl, hd, h⟩ := h
    rcases h with ⟨rw, ⟨hok, erw⟩, q⟩ | ⟨hno, q⟩
    · have C_read_row := Cl.toE (ok_read_row (P := P) (w := w) (base := base) T)
      refine ⟨_, (pss_cons (ps_tryN (by rfl) hX.m_NoRow hX.k_NoRow (tb_set (i := 1) sc_law_read.nd rfl (Or.inl rfl) C_read_row hr (by rfl) (pa_cons (pv 0) pa_nil))
        (fun a => (pss_one (ps_ret pe_non))))
      (pss_one (ps_ret (pe_lst (pa_cons (pv 1) pa_nil))))), ?_⟩
      refine ⟨_, rfl, rw, (by rw [erw]; rfl), hok, fun r H1 s1 hr1 => ?_⟩
      exact ⟨_, rfl, (by show 1 ≤ sizeLine; decide), fun l gl => q l r _ (s1.new gl) upd_same (hr1.mono (Tups.new gl))⟩
    · have C_read_row := ok_anyE (P := P) (w := w) (base := base) T hX
      refine ⟨_, (pss_cons (ps_tryN (by rfl) hX.m_NoRow hX.k_NoRow (tb_set (i := 1) sc_law_read.nd rfl (Or.inl rfl) C_read_row hr (by rfl) (pa_cons (pv 0) pa_nil))
        (fun a => (pss_one (ps_ret pe_non))))
      (pss_one (ps_ret (pe_lst (pa_cons (pv 1) pa_nil))))), ?_⟩
      have hsp := hd.split
      refine ⟨_, rfl, Str.join " " ws, rfl, (by have := hd.len; omega), (by rw [hsp]; exact hd.ok), (fun rw r H1 e ho s1 hr1 => ?_), fun H1 dx s1 hdx => ?_⟩
      · rw [hsp] at e
        exact absurd ⟨rw, ho, e⟩ hno
      · refine ⟨A.NoRow, rfl, hX.s_NoRow, fun a na => q _ (s1.new na)⟩
theorem row_tup {H : Hp} {r : Addr} {rw : Rw} (h : RowAt H r rw) : ∃ xs, H r = some (.tup xs) := by
  cases rw with
  | bring p ps => obtain ⟨t, h1, _⟩ := h; exact ⟨_, h1⟩
  | give o g => exact ⟨_, h⟩
  | set o ts => obtain ⟨t, h1, _⟩ := h; exact ⟨_, h1⟩
  | take o => exact ⟨_, h⟩
  | say ts w => obtain ⟨t, h1, _⟩ := h; exact ⟨_, h1⟩
  | need ts => obtain ⟨t, h1, _⟩ := h; exact ⟨_, h1⟩
  | ask p w => exact ⟨_, h⟩
  | part p => exact ⟨_, h⟩
  | doo p => exact ⟨_, h⟩
def spRight5 : Sp := fun vs H Q _ => ∃ (l : Addr) (ws : List Str), vs = [.ref l] ∧ H l = some (.lst (ws.map V.str)) ∧ Drawn ws ∧ ∀ H', Same H H' → Q (.bl true) H'
theorem flat_strs : ∀ xs : List Str, (xs.map V.str).all flatV = true
  | [] => rfl
  | x :: r => by
    rw [List.map_cons, List.all_cons, flat_strs r]
    rfl
theorem ok_right5 (T : Txt K mg) {A : Adr} (hX : XTxt K mg A) : L2.Cl P w K mg base 9 "_law_right" ["_law_words_here"] spRight5 := by
  have C_law_read := ok_read5 (P := P) (w := w) (base := base) T hX
  have C_words_of := ok_words_of (P := P) (w := w) (base := base) T
  have C_shown_row := ok_shown_row (P := P) (w := w) (base := base) T
  refine Cl.of T.d_law_right sc_law_right (fun vs H Q E h => ?_) (fun _ _ _ _ _ _ us hl => match us, hl with | [_], _ => rfl) (fun f cdv A0 outer s H vs Q E hr h => ?_)
  · obtain ⟨l, ws, rfl, _⟩ := h
    rfl
  · obtain ⟨l, ws, rfl, hl, hd, q⟩ := h
    have hu0 := Nat.lt_of_succ_lt (hu_of hr)
    have hu4 := Nat.lt_of_le_of_lt (Nat.add_le_add_left (by decide : 1 + 3 ≤ 64) _) hr.units
    rw [← Nat.add_assoc] at hu4
    have hdf := hd.few
    have hsum := Drawn.sum hd.wd
    refine ⟨_, (pss_cons (ps_set (i := 1) sc_law_right.nd rfl (Or.inl rfl) (pe_bm PySem.F.plainAttrs_str PySem.F.slot_str_join PySem.F.type_str_join mt_join pe_str (pa_cons (pv 0) pa_nil)))
      (pss_cons (ps_set (i := 2) sc_law_right.nd rfl (Or.inl rfl) (pe_fn C_law_read hr (by rfl) (pa_cons (pv 1) pa_nil)))
      (pss_cons (ps_if (pt_cmp (pc_isN (pv 2)))
        (pss_one (ps_ret (pe_cmp (pc_isN (pe_fn C_law_read hr (by rfl) (pa_cons (pv 1) pa_nil)))))) pss_nil)
      (pss_cons (ps_if (pt_not (pt_val (pe_callB call_isinst (by rfl) T.n_isinstance PyProof.Rows.boot_isinstance (pa_cons (pe_ix ix_list (pv 2) pe_int (fun _ _ => rfl)) (pa_cons (pe_bltn (v := .ty "tuple") (by rfl) T.n_tuple boot_tuple rfl) pa_nil)))))
        (pss_one (ps_ret pe_bl)) pss_nil)
      (pss_cons (ps_set (i := 3) sc_law_right.nd rfl (Or.inl rfl) (pe_fn C_words_of hr (by rfl) (pa_cons (pe_ix ix_list (pv 2) pe_int (fun _ _ => rfl)) pa_nil)))
      (pss_cons (ps_if (PW.pt (pw_or (pt_not (pt_val (pe_callB call_isinst (by rfl) T.n_isinstance PyProof.Rows.boot_isinstance (pa_cons (pv 3) (pa_cons (pe_bltn (v := .ty "tuple") (by rfl) T.n_tuple boot_tuple rfl) pa_nil))))) (pw_or1 (pt_cmpR (op_neL_same hu0) (pe_callTy call_list_of (by rfl) T.n_list boot_list (pa_cons (pv 3) pa_nil)) (pv 0) (nomark _)))))
        (pss_one (ps_ret pe_bl)) pss_nil)
      (pss_one (ps_ret (pe_and (pe_cmpR op_eq (pe_fn C_shown_row hr (by rfl) (pa_cons (pe_ix ix_list (pv 2) pe_int (fun _ _ => rfl)) pa_nil)) (pv 1) (nomark _)) (pe_one (pe_cmpR (op_eqLD 3 hu4) (pe_fn C_law_read hr (by rfl) (pa_cons (pv 1) pa_nil)) (pv 2) (nomark _)))))))))))), ?_⟩
    refine ⟨rfl, _, rfl, _, l, _, rfl, rfl, .inr (SqL.of hl), (by decide +kernel), (by omega), ?_⟩
    by_cases hg : ∃ rw, Good ws rw
    · obtain ⟨rw, hok, erw⟩ := hg
      refine ⟨_, rfl, ws, rfl, hd, .inl ⟨rw, ⟨hok, erw⟩, fun fo r H1 s1 hfo hrow => ?_⟩⟩
      refine ⟨_, rfl, _, rfl, iteF ?_⟩
      obtain ⟨rt, hrt⟩ := row_tup hrow
      have a0 : atI [V.ref r] 0 = some (.ref r) := atI_nat (j := 0) rfl
      refine ⟨_, rfl, fo, _, _, _, rfl, rfl, SqL.of hfo, a0, _, _, _, _, rfl, .tup hrt, kit_same _ _, _, rfl, iteF ?_⟩
      refine ⟨_, rfl, fo, _, _, _, rfl, rfl, SqL.of hfo, a0, r, rowW rw, rfl, rowW_of hrow hok, fun p H2 s2 hp => ?_⟩
      refine ⟨_, rfl, _, _, _, _, rfl, .tup hp, kit_same _ _, _, rfl, iteF ?_⟩
      have hl2 := (s1.trans s2) _ _ hl
      refine ⟨_, rfl, p, _, rfl, .inr (SqT.of hp), fun d gd => ?_⟩
      have s3 := s2.new (o := .lst ((rowW rw).map V.str)) gd
      have hd3 : upd H2 d (.lst ((rowW rw).map V.str)) d = some (.lst (ws.map V.str)) := by rw [upd_same, erw]
      have hl3 := upd_keep (o := .lst ((rowW rw).map V.str)) hl2 gd
      generalize upd H2 d (.lst ((rowW rw).map V.str)) = H3 at s3 hd3 hl3 ⊢
      refine ⟨_, rfl, d, l, _, rfl, rfl, SqL.of hd3, SqL.of hl3, flat_strs ws, _, rfl, iteF ?_⟩
      have hfo3 := s3 _ _ hfo
      have hrow3 := hrow.mono s3.tups
      refine ⟨_, rfl, fo, _, _, _, rfl, rfl, SqL.of hfo3, a0, r, rowW rw, rfl, rowW_of hrow3 hok, fun H4 s4 => ?_⟩
      refine ⟨_, rfl, rfl, _, rfl, ?_⟩
      rw [erw]
      refine iteSE ?_
      refine ⟨_, rfl, ws, rfl, hd, .inl ⟨rw, ⟨hok, erw⟩, fun fo2 r2 H5 s5 hfo2 hrow2 => ?_⟩⟩
      have s35 := s4.trans s5
      exact ⟨_, rfl, fo2, fo, _, _, rfl, rfl, SqL.of hfo2, SqL.of (s35 _ _ hfo3), .cons (row_d hrow2 (hrow3.mono s35.tups)) .nil, q _ ((s1.trans s3).trans s35)⟩
    · refine ⟨_, rfl, ws, rfl, hd, .inr ⟨hg, fun H1 s1 => ?_⟩⟩
      refine ⟨_, rfl, _, rfl, iteT ?_⟩
      exact ⟨_, rfl, ws, rfl, hd, .inr ⟨hg, fun H2 s2 => q H2 (s1.trans s2)⟩⟩
theorem to_g {X R : TS} {D : Ends} {r : VK} {b k : L2.St → Hp → Prop} {i : Nat} {v : V} {σ : L2.St} {H : Hp} (h : tSeq X R D (σ.set i (some v)) H) : gName i v σ H (Ends.nx ⟨tSeq X R D, r, b, k⟩) := h
def spStream : Sp := fun vs H Q _ => ∃ c : Int, vs = [.int c, .int 11] ∧ ∀ (l : Addr) (ns : List Int) (H' : Hp), Same H H' → H' l = some (.lst (ns.map V.int)) → ns.length = 11 → (∀ n ∈ ns, 0 ≤ n) → Q (.ref l) H'
theorem ok_stream (T : Txt K mg) : L2.Cl P w K mg base 1 "_law_stream" ["_law_cell", "_law_many"] spStream := by
  refine Cl.of T.d_law_stream sc_law_stream (fun vs H Q E h => ?_) (fun _ _ _ _ _ _ us hl => match us, hl with | [_, _], _ => rfl) (fun f cdv A0 outer s H vs Q E hr h => ?_)
  · obtain ⟨c, rfl, _⟩ := h
    rfl
  · obtain ⟨c, rfl, q⟩ := h
    refine ⟨_, (pss_cons (ps_set (i := 2) sc_law_stream.nd rfl (Or.inl rfl) (pe_lst pa_nil))
      (pss_cons (ps_set (i := 3) sc_law_stream.nd rfl (Or.inl rfl) (pe_op op_mod (pv 0) pe_int))
      (pss_cons (ps_for PassesOwn.never rfl (pi_range1 (by rfl) T.n_range (pa_cons (pe_op op_add (pv 1) pe_int) pa_nil)) (pg_name (i := 4) sc_law_stream.nd rfl (Or.inl rfl))
        (pss_cons (ps_set (i := 3) sc_law_stream.nd rfl (Or.inl rfl) (pe_op op_mod (pe_op op_add (pe_op op_add (pe_op op_add (pe_op op_mul (pv 3) (pv 3)) (pe_op op_mul pe_int (pv 3))) (pe_op op_mul pe_int (pv 4))) pe_int) pe_int))
        (pss_one (ps_expr (pe_bm PySem.F.plainAttrs_list PySem.F.slot_list_append PySem.F.type_list_append mt_append (pv 2) (pa_cons (pv 3) pa_nil))))))
      (pss_one (ps_ret (pe_slice sl_list (pv 2) (po_some pe_int) po_none)))))), ?_⟩
    refine ⟨(by show 0 ≤ sizeLine; decide), fun L gL => ?_⟩
    have s1 : Same H (upd H L (.lst [])) := (Same.refl H).new gL
    have hL1 : upd H L (.lst []) L = some (.lst []) := upd_same
    generalize upd H L (.lst []) = H1 at s1 hL1 ⊢
    refine ⟨_, rfl, _, _, rfl, rfl, (by show (0 : Int) < 2305843009213693951; decide), ?_⟩
    have c0 : 0 ≤ c % 2305843009213693951 := Int.emod_nonneg _ (by decide)
    have c1 : c % 2305843009213693951 < 2305843009213693951 := Int.emod_lt_of_pos _ (by decide)
    refine ⟨_, rfl, _, _, rfl, rfl, _, rfl, by decide, by decide, ?_⟩
    refine for_range (n := 12) (fun i σ H2 => ∃ (N : Int) (ns : List Int) (v4 : Option V), σ = [some (.int c), some (.int 11), some (.ref L), some (.int N), v4] ∧ 0 ≤ N ∧ N < 2305843009213693951 ∧ Same H H2 ∧ H2 L = some (.lst (ns.map V.int)) ∧ ns.length = i ∧ ∀ n ∈ ns, 0 ≤ n)
      ⟨_, [], none, rfl, c0, c1, s1, hL1, rfl, fun n hn => by cases hn⟩ ?_ ?_
    · rintro i σ H2 hi ⟨N, ns, v4, rfl, n0, n1, s2, hL, hnl, hns⟩
      refine ⟨_, rfl, _, rfl, _, _, rfl, rfl, .inl ⟨by omega, by omega⟩, _, rfl, _, _, rfl, rfl, .inl ⟨by decide, by decide⟩, _, _, rfl, rfl, _, rfl, _, _, rfl, rfl, .inl ⟨by decide, by decide⟩, _, _, rfl, rfl, _, _, rfl, rfl, _, _, rfl, rfl, (by show (0 : Int) < 2305843009213693951; decide), ?_⟩
      have m0 : 0 ≤ (N * N + 48271 * N + 7 * (0 + (i : Int)) + 3) % 2305843009213693951 := Int.emod_nonneg _ (by decide)
      have m1 : (N * N + 48271 * N + 7 * (0 + (i : Int)) + 3) % 2305843009213693951 < 2305843009213693951 := Int.emod_lt_of_pos _ (by decide)
      show gName 3 (.int ((N * N + 48271 * N + 7 * (0 + (i : Int)) + 3) % 2305843009213693951)) _ _ _
      generalize (N * N + 48271 * N + 7 * (0 + (i : Int)) + 3) % 2305843009213693951 = M at m0 m1 ⊢
      refine ⟨_, rfl, .inl ⟨rfl, _, SqL.of hL⟩, _, rfl, L, _, _, rfl, rfl, hL, small1000 (by rw [List.length_map]; omega), ?_⟩
      refine ⟨M, ns ++ [M], _, rfl, m0, m1, s2.put gL, ?_, by rw [List.length_append, hnl]; rfl, fun n hn => ?_⟩
      · rw [upd_same, List.map_append]; rfl
      · rcases List.mem_append.mp hn with z | z
        · exact hns n z
        · rw [List.mem_singleton.mp z]; exact m0
    · rintro σ H2 ⟨N, ns, v4, rfl, n0, n1, s2, hL, hnl, hns⟩
      refine ⟨_, rfl, _, rfl, L, _, rfl, SqL.of hL, fun d hd => ?_⟩
      refine q d (ns.drop 1) _ (s2.new hd) ?_ (by rw [List.length_drop, hnl]) fun n hn => hns n (List.mem_of_mem_drop hn)
      rw [upd_same, List.map_drop]
      exact congrArg (fun z => some (HO.lst z)) (cut_from _ 1 (by rw [List.length_map, hnl]; decide))
def strsOf : List Expr → Option (List Str)
  | [] => some []
  | .Constant (.str x) _ _ :: r => (strsOf r).map (x :: ·)
  | _ => none
theorem strs_of : ∀ {es : List Expr} {ys : List Str}, strsOf es = some ys → StrsE es ys
  | [], ys, h => by
    have : ys = [] := by simpa [strsOf] using h.symm
    rw [this]
    exact .nil
  | e :: r, ys, h => by
    unfold strsOf at h
    split at h
    · rename_i he
      cases he
    · rename_i x _ _ r' he
      cases he
      cases e2 : strsOf r with
      | none => rw [e2] at h; cases h
      | some zs =>
        rw [e2] at h
        have : ys = x :: zs := (Option.some.inj h).symm
        rw [this]
        exact .cons (strs_of e2)
    · cases h
theorem pe_strs {X : Cx} {es : List Expr} {pos : Pos} (ys : List Str) (h : strsOf es = some ys) : PE X (.List es pos) (tLst fun _ H Q => Q (ys.map V.str) H) := pe_lst (pa_strs (strs_of h))
def elts : Expr → List Expr
  | .List es _ => es
  | .BinOp _ _ (.List es _) _ => es
  | _ => []
def valAt : Stmt → Expr
  | .Assign _ e _ => e
  | _ => .Name "x" ⟨0, 0, 0, 0⟩
def stAt (i : Nat) : Stmt := (defBody s_law_word).getD i (.Pass ⟨0, 0, 0, 0⟩)
theorem hbody : defBody s_law_word = stAt 0 :: stAt 1 :: (defBody s_law_word).drop 2 := rfl
theorem shape0 : ∃ xp es p q, stAt 0 = .Assign [.Name "_law_some" xp] (.List es p) q ∧ es = elts (valAt (stAt 0)) := ⟨_, _, _, _, rfl, rfl⟩
theorem shape1 : ∃ xp np es p bp q, stAt 1 = .Assign [.Name "_law_some" xp] (.BinOp (.Name "_law_some" np) .Add (.List es p) bp) q ∧ es = elts (valAt (stAt 1)) := ⟨_, _, _, _, _, _, rfl, rfl⟩
theorem k16 : strsOf (elts (valAt (stAt 0))) = some (["when", "as", "set", "take", "say", "need", "ask", "part", "do", "bring", "give", "=", "+", "-", "", "x"] : List Str) := by decide +kernel
theorem k14 : strsOf (elts (valAt (stAt 1))) = some (["a1", "0", "7", "00", "-0", "1_0", "A", "+1", "abcdefgh", "abcdefghi", "x\n", "7\t", "7\n", "*"] : List Str) := by decide +kernel
def Wd5 (x : Str) : Prop := 32 ∉ x.cps.toList ∧ x.length ≤ 200
theorem Wd5.app {x y : Str} (hx : 32 ∉ x.cps.toList) (hy : 32 ∉ y.cps.toList) : 32 ∉ (x ++ y).cps.toList := by
  rw [cps_app]
  intro h
  rcases List.mem_append.mp h with z | z
  · exact hx z
  · exact hy z
theorem words30 : ∀ y ∈ (["when", "as", "set", "take", "say", "need", "ask", "part", "do", "bring", "give", "=", "+", "-", "", "x", "a1", "0", "7", "00", "-0", "1_0", "A", "+1", "abcdefgh", "abcdefghi", "x\n", "7\t", "7\n", "*"] : List Str), 32 ∉ y.cps.toList ∧ y.length ≤ 200 := by decide +kernel
def sg36 : Str := "abcdefghijklmnopqrstuvwxyz0123456789"
theorem sg36_len : sg36.length ≤ sizeLine ∧ sg36.cps.toList.length = 36 := by decide +kernel
theorem sg36_no : ∀ i : Nat, i < 36 → 32 ∉ ((⟨#[sg36.cps.toList.getD i 0]⟩ : Str)).cps.toList := by decide +kernel
def spWord5 : Sp := fun vs H Q _ => ∃ n : Int, vs = [.int n] ∧ 0 ≤ n ∧ ∀ (x : Str) (H' : Hp), Same H H' → Wd5 x → Q (.str x) H'
def muR (σ : L2.St) (_ : Hp) : Nat := match σ[3]? with
  | some (some (V.int i)) => i.toNat
  | _ => 0
theorem ok_word5 (T : Txt K mg) : L2.Cl P w K mg base 1 "_law_word" ["_law_number"] spWord5 := by
  refine Cl.of T.d_law_word sc_law_word (fun vs H Q E h => ?_) (fun _ _ _ _ _ _ us hl => match us, hl with | [_], _ => rfl) (fun f cdv A0 outer s H vs Q E hr h => ?_)
  · obtain ⟨n, rfl, _⟩ := h
    rfl
  · obtain ⟨n, rfl, hn, q⟩ := h
    obtain ⟨xp0, es0, p0, q0, e0, he0⟩ := shape0
    obtain ⟨xp1, np1, es1, p1, bp1, q1, e1, he1⟩ := shape1
    rw [hbody, e0, e1]
    refine ⟨_, (pss_cons (ps_set (i := 1) sc_law_word.nd rfl (Or.inl rfl) (pe_strs _ (by rw [he0]; exact k16)))
      (pss_cons (ps_set (i := 1) sc_law_word.nd rfl (Or.inl rfl) (pe_op op_cat (pv 1) (pe_strs _ (by rw [he1]; exact k14))))
      (pss_cons (ps_if (pt_cmpR op_lt (pe_op op_mod (pv 0) pe_int) pe_int (nomark _))
        (pss_one (ps_ret (pe_ix ix_list (pv 1) (pe_op op_mod (pe_op op_fdiv (pv 0) pe_int) pe_int) (fun _ _ => rfl)))) pss_nil)
      (pss_cons (ps_if (pt_cmpR op_eq (pe_op op_mod (pv 0) pe_int) pe_int (nomark _))
        (pss_one (ps_ret (pe_op op_add_str (pe_op op_add_str (pe_callTy call_str_int (by rfl) T.n_str boot_str (pa_cons (pe_op op_mod (pe_op op_fdiv (pv 0) pe_int) pe_int) pa_nil)) (pe_op op_repS pe_str (pe_op op_mod (pe_op op_fdiv (pv 0) pe_int) pe_int))) (pe_op op_repS pe_str (pe_op op_mod (pe_op op_fdiv (pv 0) pe_int) pe_int))))) pss_nil)
      (pss_cons (ps_set (i := 2) sc_law_word.nd rfl (Or.inl rfl) pe_str)
      (pss_cons (ps_set (i := 3) sc_law_word.nd rfl (Or.inl rfl) (pe_op op_mod (pe_op op_fdiv (pv 0) pe_int) (pe_op op_pow pe_int pe_int)))
      (pss_cons (ps_while PassesOwn.never (pt_cmpR op_gt (pv 3) pe_int (nomark _))
        (pss_cons (ps_set (i := 2) sc_law_word.nd rfl (Or.inl rfl) (pe_op op_add_str (pv 2) (pe_ix ix_str pe_str (pe_op op_mod (pv 3) pe_int) (fun _ _ => rfl))))
        (pss_one (ps_set (i := 3) sc_law_word.nd rfl (Or.inl rfl) (pe_op op_fdiv (pv 3) pe_int)))))
      (pss_one (ps_ret (pv 2)))))))))), ?_⟩
    refine ⟨(by show 16 ≤ sizeLine; decide), fun l gl => ?_⟩
    refine ⟨_, rfl, (by show 14 ≤ sizeLine; decide), fun b gb => ⟨l, b, _, _, rfl, rfl, upd_keep upd_same gb, upd_same, (by show 16 + 14 ≤ sizeLine; decide), fun r gr => ?_⟩⟩
    obtain ⟨y, hy, e⟩ := atI_menu (["when", "as", "set", "take", "say", "need", "ask", "part", "do", "bring", "give", "=", "+", "-", "", "x", "a1", "0", "7", "00", "-0", "1_0", "A", "+1", "abcdefgh", "abcdefghi", "x\n", "7\t", "7\n", "*"] : List Str) (i := n / 8 % 30) (by omega) (by show n / 8 % 30 < 30; omega)
    refine ⟨_, rfl, _, _, rfl, rfl, (by show (0 : Int) < 8; decide), _, _, rfl, rfl, _, rfl, ite2 (fun _ => ?_) fun _ => ?_⟩
    · refine ⟨_, rfl, _, rfl, _, _, rfl, rfl, ⟨by decide, by decide⟩, _, _, rfl, rfl, (by show (0 : Int) < 30; decide), r, _, _, _, rfl, rfl, SqL.of upd_same, e, ?_⟩
      exact q y _ ((((Same.refl H).new gl).new gb).new gr) (words30 y hy)
    · refine ⟨_, rfl, _, _, rfl, rfl, (by show (0 : Int) < 8; decide), rfl, _, rfl, ite2I (fun _ => ?_) fun _ => ?_⟩
      · have i0 : 0 ≤ n / 8 % 1000003 := Int.emod_nonneg _ (by decide)
        have i1 : n / 8 % 1000003 < 1000003 := Int.emod_lt_of_pos _ (by decide)
        have k0 : 0 ≤ n / 16 % 5 := Int.emod_nonneg _ (by decide)
        have k1 : n / 16 % 5 < 5 := Int.emod_lt_of_pos _ (by decide)
        have j0 : 0 ≤ n / 80 % 15 := Int.emod_nonneg _ (by decide)
        have j1 : n / 80 % 15 < 15 := Int.emod_lt_of_pos _ (by decide)
        have hw : WordOk (thS (.num (n / 8 % 1000003))) := ThOk.word (t := .num (n / 8 % 1000003)) ⟨i0, by omega⟩
        have hw1 : 32 ∉ (Str.ofString (toString (n / 8 % 1000003))).cps.toList := hw.1
        have hw2 : (Str.ofString (toString (n / 8 % 1000003))).length ≤ 61 := hw.2
        have hlog : (n / 8 % 1000003).natAbs.log2 < 1920 := by
          have : (n / 8 % 1000003).natAbs < 2 ^ 1920 := Nat.lt_of_lt_of_le (show (n / 8 % 1000003).natAbs < 2 ^ 20 by omega) (Nat.pow_le_pow_right (by decide) (by decide))
          by_cases z : (n / 8 % 1000003).natAbs = 0
          · rw [z]; decide
          · exact (Nat.log2_lt z).mpr this
        have d1 : ("0123456789" : Str).length = 10 ∧ 32 ∉ ("0123456789" : Str).cps.toList := by decide +kernel
        have d2 : ("4" : Str).length = 1 ∧ 32 ∉ ("4" : Str).cps.toList := by decide +kernel
        refine ⟨_, rfl, _, _, rfl, rfl, ⟨by decide, by decide⟩, _, _, rfl, rfl, (by show (0 : Int) < 1000003; decide), _, rfl, hlog, _, rfl, _, _, rfl, rfl, ⟨by decide, by decide⟩, _, _, rfl, rfl, (by show (0 : Int) < 5; decide), _, _, rfl, rfl, k0, by omega, (by rw [d1.1]; decide), fun y1 hy1 hc1 => ?_⟩
        have l1 : y1.length ≤ 40 := Nat.le_trans hy1 (by rw [d1.1]; omega)
        have n1 : 32 ∉ y1.cps.toList := fun z => d1.2 (hc1 _ z)
        refine ⟨_, _, rfl, rfl, Nat.le_of_lt (small1000 (by omega)), _, rfl, _, _, rfl, rfl, ⟨by decide, by decide⟩, _, _, rfl, rfl, (by show (0 : Int) < 15; decide), _, _, rfl, rfl, j0, by omega, (by rw [d2.1]; decide), fun y2 hy2 hc2 => ?_⟩
        have l2 : y2.length ≤ 14 := Nat.le_trans hy2 (by rw [d2.1]; omega)
        have n2 : 32 ∉ y2.cps.toList := fun z => d2.2 (hc2 _ z)
        refine ⟨_, _, rfl, rfl, Nat.le_of_lt (small1000 (by rw [Str.length_append]; omega)), q _ _ ((((Same.refl H).new gl).new gb).new gr) ⟨Wd5.app (Wd5.app hw1 n1) n2, ?_⟩⟩
        rw [Str.length_append, Str.length_append]
        omega
      · have p36 : (36 : Int) ^ (9 : Int).toNat = 101559956668416 := by decide
        refine ⟨_, rfl, _, _, rfl, rfl, ⟨by decide, by decide⟩, _, _, rfl, rfl, ⟨by decide, by decide, by decide⟩, _, _, rfl, rfl, (by show (0 : Int) < 36 ^ (9 : Int).toNat; decide), ?_⟩
        have m0 : 0 ≤ n / 8 % 36 ^ (9 : Int).toNat := Int.emod_nonneg _ (by decide)
        have m1 : n / 8 % 36 ^ (9 : Int).toNat < 36 ^ (9 : Int).toNat := Int.emod_lt_of_pos _ (by decide)
        show gName 3 (.int (n / 8 % 36 ^ (9 : Int).toNat)) _ _ _
        generalize n / 8 % 36 ^ (9 : Int).toNat = R at m0 m1 ⊢
        rw [p36] at m1
        refine to_g ?_
        have dn : ("n" : Str).length = 1 ∧ 32 ∉ ("n" : Str).cps.toList := by decide +kernel
        refine while_by (D := _) (fun σ H2 => Same H H2 ∧ ∃ (x : Str) (k j : Nat), σ = [some (.int n), some (.ref r), some (.str x), some (.int (k : Int))] ∧ 32 ∉ x.cps.toList ∧ x.length = j + 1 ∧ j ≤ 9 ∧ k < 36 ^ (9 - j)) muR
          ⟨((((Same.refl H).new gl).new gb).new gr), "n", R.toNat, 0, ?_, dn.2, dn.1, by decide, ?_⟩ ?_ ?_
        · show [some (V.int n), some (V.ref r), some (V.str "n"), some (V.int R)] = _
          rw [show ((R.toNat : Nat) : Int) = R by omega]
        · show R.toNat < 36 ^ 9
          have : (36 : Nat) ^ 9 = 101559956668416 := by decide
          omega
        · rintro σ H2 ⟨s4, x, k, j, rfl, hx, hxl, hj, hk⟩
          refine ⟨_, rfl, _, _, rfl, rfl, _, rfl, ite2 (fun hc => ?_) fun hc => ?_⟩
          · have hk0 : 0 < k := by have := of_decide_eq_true hc; omega
            have hj8 : j ≤ 8 := by
              by_cases z : j = 9
              · rw [z] at hk
                have : (36 : Nat) ^ (9 - 9) = 1 := by decide
                omega
              · omega
            have i0 : 0 ≤ (k : Int) % 36 := Int.emod_nonneg _ (by decide)
            have i1 : (k : Int) % 36 < 36 := Int.emod_lt_of_pos _ (by decide)
            refine ⟨_, rfl, _, rfl, _, _, rfl, rfl, (by show (0 : Int) < 36; decide), sg36, _, _, rfl, rfl, sg36_len.1, atI_getD _ 0 i0 (by rw [sg36_len.2]; exact i1), _, _, rfl, rfl, Nat.le_of_lt (small1000 (by show x.length + 1 ≤ 1000; omega)), ?_⟩
            refine ⟨_, rfl, _, _, rfl, rfl, ⟨by decide, by decide⟩, ⟨s4, x ++ ⟨#[sg36.cps.toList.getD ((k : Int) % 36).toNat 0]⟩, k / 36, j + 1, ?_, Wd5.app hx (sg36_no _ (by omega)), ?_, by omega, ?_⟩, ?_⟩
            · show [some (V.int n), some (V.ref r), some (V.str _), some (V.int ((k : Int) / 36))] = _
              rw [show ((k : Int) / 36) = ((k / 36 : Nat) : Int) by omega]
            · rw [Str.length_append, hxl]; rfl
            · rw [Nat.div_lt_iff_lt_mul (by decide), ← Nat.pow_succ, show (9 - (j + 1)).succ = 9 - j by omega]
              exact hk
            · show ((k : Int) / 36).toNat < ((k : Int)).toNat
              omega
          · exact ⟨_, rfl, q x H2 s4 ⟨hx, by omega⟩⟩
        · rintro σ H2 Q1 Q2 hQ ⟨v, e1, i, j, e5, e6, k, e7, h8⟩
          exact ⟨v, e1, i, j, e5, e6, k, e7, hQ _ _ h8⟩
def Lst5 (H : Hp) (v : V) : Prop := ∃ (a : Addr) (ws : List Str), v = .ref a ∧ H a = some (.lst (ws.map V.str)) ∧ ws ≠ [] ∧ ws.length ≤ 12 ∧ ∀ x ∈ ws, Wd5 x
theorem Lst5.mono {H H' : Hp} (s : Same H H') {v : V} (h : Lst5 H v) : Lst5 H' v := by
  obtain ⟨a, ws, h1, h2, h3⟩ := h
  exact ⟨a, ws, h1, s _ _ h2, h3⟩
def All5 (H : Hp) (vs : List V) : Prop := ∀ v ∈ vs, Lst5 H v
theorem All5.mono {H H' : Hp} (s : Same H H') {vs : List V} (h : All5 H vs) : All5 H' vs := fun v hv => (h v hv).mono s
theorem All5.app {H : Hp} {us vs : List V} (h : All5 H us) (g : All5 H vs) : All5 H (us ++ vs) := fun v hv => by
  rcases List.mem_append.mp hv with z | z
  · exact h v z
  · exact g v z
theorem All5.one {H : Hp} {a : Addr} {ws : List Str} (h : H a = some (.lst (ws.map V.str))) (h1 : ws ≠ []) (h2 : ws.length ≤ 12) (h3 : ∀ x ∈ ws, Wd5 x) : All5 H [.ref a] := fun v hv => by
  rw [List.mem_singleton.mp hv]
  exact ⟨a, ws, rfl, h, h1, h2, h3⟩
instance (x : Str) : Decidable (Wd5 x) := inferInstanceAs (Decidable (_ ∧ _))
def spBegun5 : Sp := fun vs H Q _ => ∃ n : Int, vs = [.int n] ∧ 0 ≤ n ∧ ∀ (v : V) (H' : Hp), Same H H' → Lst5 H' v → Q v H'
theorem all_nil {H : Hp} : All5 H [] := fun v hv => by cases hv
theorem at_all {H : Hp} {vs : List V} (h : All5 H vs) {i : Int} (h0 : 0 ≤ i) (h1 : i < (vs.length : Int)) : ∃ v, atI vs i = some v ∧ Lst5 H v := by
  have e := atI_getD vs (.non) h0 h1
  refine ⟨_, e, h _ ?_⟩
  rw [List.getD_eq_getElem?_getD, List.getElem?_eq_getElem (by omega)]
  exact List.getElem_mem _
def inner (s : Stmt) (i : Nat) : List Expr := elts ((elts (valAt s)).getD i (.Name "x" ⟨0, 0, 0, 0⟩))
def argOf : Stmt → List Expr
  | .Expr (.Call _ [.List es _] _ _) _ => es
  | _ => []
def stB (i : Nat) : Stmt := (defBody s_law_begun).getD i (.Pass ⟨0, 0, 0, 0⟩)
theorem hbodyB : defBody s_law_begun = stB 0 :: stB 1 :: stB 2 :: stB 3 :: stB 4 :: (defBody s_law_begun).drop 5 := rfl
theorem shB0 : ∃ xp a0 p0 a1 p1 a2 p2 a3 p3 p q, stB 0 = .Assign [.Name "_law_some" xp] (.List [.List a0 p0, .List a1 p1, .List a2 p2, .List a3 p3] p) q ∧ a0 = inner (stB 0) 0 ∧ a1 = inner (stB 0) 1 ∧ a2 = inner (stB 0) 2 ∧ a3 = inner (stB 0) 3 := ⟨_, _, _, _, _, _, _, _, _, _, _, rfl, rfl, rfl, rfl, rfl⟩
theorem kB00 : strsOf (inner (stB 0) 0) = some (["take", "x"] : List Str) := by decide +kernel
theorem kB01 : strsOf (inner (stB 0) 1) = some (["set", "x", "=", "a", "+", "7"] : List Str) := by decide +kernel
theorem kB02 : strsOf (inner (stB 0) 2) = some (["say", "a", "-", "b"] : List Str) := by decide +kernel
theorem kB03 : strsOf (inner (stB 0) 3) = some (["say", "a", "when", "b"] : List Str) := by decide +kernel
theorem shB1 : ∃ xp np bp a0 p0 a1 p1 a2 p2 a3 p3 p q, stB 1 = .Assign [.Name "_law_some" xp] (.BinOp (.Name "_law_some" np) .Add (.List [.List a0 p0, .List a1 p1, .List a2 p2, .List a3 p3] p) bp) q ∧ a0 = inner (stB 1) 0 ∧ a1 = inner (stB 1) 1 ∧ a2 = inner (stB 1) 2 ∧ a3 = inner (stB 1) 3 := ⟨_, _, _, _, _, _, _, _, _, _, _, _, _, rfl, rfl, rfl, rfl, rfl⟩
theorem kB10 : strsOf (inner (stB 1) 0) = some (["need", "a", "+", "b"] : List Str) := by decide +kernel
theorem kB11 : strsOf (inner (stB 1) 1) = some (["ask", "p"] : List Str) := by decide +kernel
theorem kB12 : strsOf (inner (stB 1) 2) = some (["ask", "p", "when", "b"] : List Str) := by decide +kernel
theorem kB13 : strsOf (inner (stB 1) 3) = some (["give", "a", "as", "b"] : List Str) := by decide +kernel
theorem shB2 : ∃ xp np bp a0 p0 a1 p1 a2 p2 p q, stB 2 = .Assign [.Name "_law_some" xp] (.BinOp (.Name "_law_some" np) .Add (.List [.List a0 p0, .List a1 p1, .List a2 p2] p) bp) q ∧ a0 = inner (stB 2) 0 ∧ a1 = inner (stB 2) 1 ∧ a2 = inner (stB 2) 2 := ⟨_, _, _, _, _, _, _, _, _, _, _, rfl, rfl, rfl, rfl⟩
theorem kB20 : strsOf (inner (stB 2) 0) = some (["bring", "p"] : List Str) := by decide +kernel
theorem kB21 : strsOf (inner (stB 2) 1) = some (["bring", "p", "a", "as", "b"] : List Str) := by decide +kernel
theorem kB22 : strsOf (inner (stB 2) 2) = some (["bring", "p", "a", "as", "b", "c", "as", "d"] : List Str) := by decide +kernel
theorem shB3 : ∃ xp np bp a0 p0 a1 p1 a2 p2 a3 p3 p q, stB 3 = .Assign [.Name "_law_some" xp] (.BinOp (.Name "_law_some" np) .Add (.List [.List a0 p0, .List a1 p1, .List a2 p2, .List a3 p3] p) bp) q ∧ a0 = inner (stB 3) 0 ∧ a1 = inner (stB 3) 1 ∧ a2 = inner (stB 3) 2 ∧ a3 = inner (stB 3) 3 := ⟨_, _, _, _, _, _, _, _, _, _, _, _, _, rfl, rfl, rfl, rfl, rfl⟩
theorem kB30 : strsOf (inner (stB 3) 0) = some (["part", "p"] : List Str) := by decide +kernel
theorem kB31 : strsOf (inner (stB 3) 1) = some (["do", "p"] : List Str) := by decide +kernel
theorem kB32 : strsOf (inner (stB 3) 2) = some (["say", "when", "when", "when"] : List Str) := by decide +kernel
theorem kB33 : strsOf (inner (stB 3) 3) = some (["set", "set", "=", "0"] : List Str) := by decide +kernel
theorem shB4 : ∃ np ap es p cp q, stB 4 = .Expr (.Call (.Attribute (.Name "_law_some" np) "append" ap) [.List es p] [] cp) q ∧ es = argOf (stB 4) ∧ (ap.endLine == cp.line) = true := ⟨_, _, _, _, _, _, rfl, rfl, rfl⟩
theorem kB4 : strsOf (argOf (stB 4)) = some (["need", "a", "+", "b", "+", "c", "-", "d", "+", "e", "-", "f"] : List Str) := by decide +kernel
def G5 (ws : List Str) : Prop := ws ≠ [] ∧ ws.length ≤ 12 ∧ ∀ x ∈ ws, Wd5 x
instance (ws : List Str) : Decidable (G5 ws) := inferInstanceAs (Decidable (_ ∧ _ ∧ _))
theorem G5.fit {ws : List Str} (h : G5 ws) : (ws.map V.str).length ≤ sizeLine := by rw [List.length_map]; exact Nat.le_of_lt (small1000 (by have := h.2.1; omega))
theorem kB00e : ∃ ws, strsOf (inner (stB 0) 0) = some ws ∧ G5 ws := ⟨_, kB00, by decide +kernel⟩
theorem kB01e : ∃ ws, strsOf (inner (stB 0) 1) = some ws ∧ G5 ws := ⟨_, kB01, by decide +kernel⟩
theorem kB02e : ∃ ws, strsOf (inner (stB 0) 2) = some ws ∧ G5 ws := ⟨_, kB02, by decide +kernel⟩
theorem kB03e : ∃ ws, strsOf (inner (stB 0) 3) = some ws ∧ G5 ws := ⟨_, kB03, by decide +kernel⟩
theorem kB10e : ∃ ws, strsOf (inner (stB 1) 0) = some ws ∧ G5 ws := ⟨_, kB10, by decide +kernel⟩
theorem kB11e : ∃ ws, strsOf (inner (stB 1) 1) = some ws ∧ G5 ws := ⟨_, kB11, by decide +kernel⟩
theorem kB12e : ∃ ws, strsOf (inner (stB 1) 2) = some ws ∧ G5 ws := ⟨_, kB12, by decide +kernel⟩
theorem kB13e : ∃ ws, strsOf (inner (stB 1) 3) = some ws ∧ G5 ws := ⟨_, kB13, by decide +kernel⟩
theorem kB20e : ∃ ws, strsOf (inner (stB 2) 0) = some ws ∧ G5 ws := ⟨_, kB20, by decide +kernel⟩
theorem kB21e : ∃ ws, strsOf (inner (stB 2) 1) = some ws ∧ G5 ws := ⟨_, kB21, by decide +kernel⟩
theorem kB22e : ∃ ws, strsOf (inner (stB 2) 2) = some ws ∧ G5 ws := ⟨_, kB22, by decide +kernel⟩
theorem kB30e : ∃ ws, strsOf (inner (stB 3) 0) = some ws ∧ G5 ws := ⟨_, kB30, by decide +kernel⟩
theorem kB31e : ∃ ws, strsOf (inner (stB 3) 1) = some ws ∧ G5 ws := ⟨_, kB31, by decide +kernel⟩
theorem kB32e : ∃ ws, strsOf (inner (stB 3) 2) = some ws ∧ G5 ws := ⟨_, kB32, by decide +kernel⟩
theorem kB33e : ∃ ws, strsOf (inner (stB 3) 3) = some ws ∧ G5 ws := ⟨_, kB33, by decide +kernel⟩
theorem kB4e : ∃ ws, strsOf (argOf (stB 4)) = some ws ∧ G5 ws := ⟨_, kB4, by decide +kernel⟩
theorem all_upd {H : Hp} {vs : List V} (h : All5 H vs) {l b : Addr} {xs ys : List V} (hl : H l = some (.lst (.ref b :: xs))) : All5 (upd H l (.lst ys)) vs := fun v hv => by
  obtain ⟨a, ws, h1, h2, h3, h4⟩ := h v hv
  refine ⟨a, ws, h1, ?_, h3, h4⟩
  have hne : a ≠ l := fun e => by
    rw [e, hl] at h2
    cases ws with
    | nil => exact h3 rfl
    | cons c cs => cases h2
  unfold upd
  rw [if_neg hne]
  exact h2
theorem ok_begun5 (T : Txt K mg) : L2.Cl P w K mg base 1 "_law_begun" ["_law_number"] spBegun5 := by
  refine Cl.of T.d_law_begun sc_law_begun (fun vs H Q E h => ?_) (fun _ _ _ _ _ _ us hl => match us, hl with | [_], _ => rfl) (fun f cdv A0 outer s H vs Q E hr h => ?_)
  · obtain ⟨n, rfl, _⟩ := h
    rfl
  · obtain ⟨n, rfl, hn, q⟩ := h
    obtain ⟨xp0, a00, p00, a01, p01, a02, p02, a03, p03, pp0, qq0, e0, h00, h01, h02, h03⟩ := shB0
    obtain ⟨xp1, np1, bp1, a10, p10, a11, p11, a12, p12, a13, p13, pp1, qq1, e1, h10, h11, h12, h13⟩ := shB1
    obtain ⟨xp2, np2, bp2, a20, p20, a21, p21, a22, p22, pp2, qq2, e2, h20, h21, h22⟩ := shB2
    obtain ⟨xp3, np3, bp3, a30, p30, a31, p31, a32, p32, a33, p33, pp3, qq3, e3, h30, h31, h32, h33⟩ := shB3
    obtain ⟨np4, ap4, es4, p4, cp4, q4, e4, h4, hln⟩ := shB4
    obtain ⟨w00, k00, y00⟩ := kB00e
    obtain ⟨w01, k01, y01⟩ := kB01e
    obtain ⟨w02, k02, y02⟩ := kB02e
    obtain ⟨w03, k03, y03⟩ := kB03e
    obtain ⟨w10, k10, y10⟩ := kB10e
    obtain ⟨w11, k11, y11⟩ := kB11e
    obtain ⟨w12, k12, y12⟩ := kB12e
    obtain ⟨w13, k13, y13⟩ := kB13e
    obtain ⟨w20, k20, y20⟩ := kB20e
    obtain ⟨w21, k21, y21⟩ := kB21e
    obtain ⟨w22, k22, y22⟩ := kB22e
    obtain ⟨w30, k30, y30⟩ := kB30e
    obtain ⟨w31, k31, y31⟩ := kB31e
    obtain ⟨w32, k32, y32⟩ := kB32e
    obtain ⟨w33, k33, y33⟩ := kB33e
    obtain ⟨w4, k4, y4⟩ := kB4e
    rw [hbodyB, e0, e1, e2, e3, e4]
    refine ⟨_, (pss_cons (ps_set (i := 1) sc_law_begun.nd rfl (Or.inl rfl) (pe_lst (pa_cons (pe_strs _ (by rw [h00]; exact k00)) (pa_cons (pe_strs _ (by rw [h01]; exact k01)) (pa_cons (pe_strs _ (by rw [h02]; exact k02)) (pa_cons (pe_strs _ (by rw [h03]; exact k03)) pa_nil))))))
      (pss_cons (ps_set (i := 1) sc_law_begun.nd rfl (Or.inl rfl) (pe_op op_cat (pv 1) (pe_lst (pa_cons (pe_strs _ (by rw [h10]; exact k10)) (pa_cons (pe_strs _ (by rw [h11]; exact k11)) (pa_cons (pe_strs _ (by rw [h12]; exact k12)) (pa_cons (pe_strs _ (by rw [h13]; exact k13)) pa_nil)))))))
      (pss_cons (ps_set (i := 1) sc_law_begun.nd rfl (Or.inl rfl) (pe_op op_cat (pv 1) (pe_lst (pa_cons (pe_strs _ (by rw [h20]; exact k20)) (pa_cons (pe_strs _ (by rw [h21]; exact k21)) (pa_cons (pe_strs _ (by rw [h22]; exact k22)) pa_nil))))))
      (pss_cons (ps_set (i := 1) sc_law_begun.nd rfl (Or.inl rfl) (pe_op op_cat (pv 1) (pe_lst (pa_cons (pe_strs _ (by rw [h30]; exact k30)) (pa_cons (pe_strs _ (by rw [h31]; exact k31)) (pa_cons (pe_strs _ (by rw [h32]; exact k32)) (pa_cons (pe_strs _ (by rw [h33]; exact k33)) pa_nil)))))))
      (pss_cons (ps_expr (pe_bm PySem.F.plainAttrs_list PySem.F.slot_list_append PySem.F.type_list_append mt_append (pv 1) (pa_cons (pe_strs _ (by rw [h4]; exact k4)) pa_nil) (hline := hln)))
      (pss_one (ps_ret (pe_ix ix_list (pv 1) (pe_op op_mod (pv 0) pe_int) (fun _ _ => rfl))))))))), ?_⟩
    refine ⟨y00.fit, fun b00 xb00 => ?_⟩
    have u00 : Same H (upd H b00 (.lst (w00.map V.str))) := (Same.refl _).new xb00
    have g00 := ((all_nil (H := H)).mono u00).app (All5.one (H := upd H b00 (.lst (w00.map V.str))) (a := b00) (ws := w00) upd_same y00.1 y00.2.1 y00.2.2)
    generalize upd H b00 (.lst (w00.map V.str)) = G00 at u00 g00 ⊢
    refine ⟨y01.fit, fun b01 xb01 => ?_⟩
    have u01 : Same G00 (upd G00 b01 (.lst (w01.map V.str))) := (Same.refl _).new xb01
    have g01 := (g00.mono u01).app (All5.one (H := upd G00 b01 (.lst (w01.map V.str))) (a := b01) (ws := w01) upd_same y01.1 y01.2.1 y01.2.2)
    generalize upd G00 b01 (.lst (w01.map V.str)) = G01 at u01 g01 ⊢
    refine ⟨y02.fit, fun b02 xb02 => ?_⟩
    have u02 : Same G01 (upd G01 b02 (.lst (w02.map V.str))) := (Same.refl _).new xb02
    have g02 := (g01.mono u02).app (All5.one (H := upd G01 b02 (.lst (w02.map V.str))) (a := b02) (ws := w02) upd_same y02.1 y02.2.1 y02.2.2)
    generalize upd G01 b02 (.lst (w02.map V.str)) = G02 at u02 g02 ⊢
    refine ⟨y03.fit, fun b03 xb03 => ?_⟩
    have u03 : Same G02 (upd G02 b03 (.lst (w03.map V.str))) := (Same.refl _).new xb03
    have g03 := (g02.mono u03).app (All5.one (H := upd G02 b03 (.lst (w03.map V.str))) (a := b03) (ws := w03) upd_same y03.1 y03.2.1 y03.2.2)
    generalize upd G02 b03 (.lst (w03.map V.str)) = G03 at u03 g03 ⊢
    have w0 := (((u00).trans u01).trans u02).trans u03
    refine ⟨(by show 4 ≤ sizeLine; decide), fun l0 gl0 => ?_⟩
    have S0 : Same H (upd G03 l0 (.lst [.ref b00, .ref b01, .ref b02, .ref b03])) := w0.new gl0
    have hl0 : (upd G03 l0 (.lst [.ref b00, .ref b01, .ref b02, .ref b03])) l0 = some (.lst [.ref b00, .ref b01, .ref b02, .ref b03]) := upd_same
    have all0 : All5 (upd G03 l0 (.lst [.ref b00, .ref b01, .ref b02, .ref b03])) [.ref b00, .ref b01, .ref b02, .ref b03] := g03.mono ((Same.refl G03).new gl0)
    generalize upd G03 l0 (.lst [.ref b00, .ref b01, .ref b02, .ref b03]) = H0 at S0 hl0 all0 ⊢
    refine ⟨_, rfl, ?_⟩
    refine ⟨y10.fit, fun b10 xb10 => ?_⟩
    have u10 : Same H0 (upd H0 b10 (.lst (w10.map V.str))) := (Same.refl _).new xb10
    have g10 := ((all_nil (H := H0)).mono u10).app (All5.one (H := upd H0 b10 (.lst (w10.map V.str))) (a := b10) (ws := w10) upd_same y10.1 y10.2.1 y10.2.2)
    generalize upd H0 b10 (.lst (w10.map V.str)) = G10 at u10 g10 ⊢
    refine ⟨y11.fit, fun b11 xb11 => ?_⟩
    have u11 : Same G10 (upd G10 b11 (.lst (w11.map V.str))) := (Same.refl _).new xb11
    have g11 := (g10.mono u11).app (All5.one (H := upd G10 b11 (.lst (w11.map V.str))) (a := b11) (ws := w11) upd_same y11.1 y11.2.1 y11.2.2)
    generalize upd G10 b11 (.lst (w11.map V.str)) = G11 at u11 g11 ⊢
    refine ⟨y12.fit, fun b12 xb12 => ?_⟩
    have u12 : Same G11 (upd G11 b12 (.lst (w12.map V.str))) := (Same.refl _).new xb12
    have g12 := (g11.mono u12).app (All5.one (H := upd G11 b12 (.lst (w12.map V.str))) (a := b12) (ws := w12) upd_same y12.1 y12.2.1 y12.2.2)
    generalize upd G11 b12 (.lst (w12.map V.str)) = G12 at u12 g12 ⊢
    refine ⟨y13.fit, fun b13 xb13 => ?_⟩
    have u13 : Same G12 (upd G12 b13 (.lst (w13.map V.str))) := (Same.refl _).new xb13
    have g13 := (g12.mono u13).app (All5.one (H := upd G12 b13 (.lst (w13.map V.str))) (a := b13) (ws := w13) upd_same y13.1 y13.2.1 y13.2.2)
    generalize upd G12 b13 (.lst (w13.map V.str)) = G13 at u13 g13 ⊢
    have w1 := (((u10).trans u11).trans u12).trans u13
    refine ⟨(by show 4 ≤ sizeLine; decide), fun m1 gm1 => ⟨l0, m1, _, _, rfl, rfl, upd_keep (w1 _ _ hl0) gm1, upd_same, (by show 4 + 4 ≤ sizeLine; decide), fun l1 gl1 => ?_⟩⟩
    have S1 : Same H (upd (upd G13 m1 (.lst [.ref b10, .ref b11, .ref b12, .ref b13])) l1 (.lst ([.ref b00, .ref b01, .ref b02, .ref b03] ++ [.ref b10, .ref b11, .ref b12, .ref b13]))) := S0.trans ((w1.new gm1).new gl1)
    have hl1 : (upd (upd G13 m1 (.lst [.ref b10, .ref b11, .ref b12, .ref b13])) l1 (.lst ([.ref b00, .ref b01, .ref b02, .ref b03] ++ [.ref b10, .ref b11, .ref b12, .ref b13]))) l1 = some (.lst ([.ref b00, .ref b01, .ref b02, .ref b03] ++ [.ref b10, .ref b11, .ref b12, .ref b13])) := upd_same
    have all1 : All5 (upd (upd G13 m1 (.lst [.ref b10, .ref b11, .ref b12, .ref b13])) l1 (.lst ([.ref b00, .ref b01, .ref b02, .ref b03] ++ [.ref b10, .ref b11, .ref b12, .ref b13]))) ([.ref b00, .ref b01, .ref b02, .ref b03] ++ [.ref b10, .ref b11, .ref b12, .ref b13]) := (all0.mono ((w1.new gm1).new gl1)).app (g13.mono (((Same.refl G13).new gm1).new gl1))
    generalize upd (upd G13 m1 (.lst [.ref b10, .ref b11, .ref b12, .ref b13])) l1 (.lst ([.ref b00, .ref b01, .ref b02, .ref b03] ++ [.ref b10, .ref b11, .ref b12, .ref b13])) = H1 at S1 hl1 all1 ⊢
    refine ⟨_, rfl, ?_⟩
    refine ⟨y20.fit, fun b20 xb20 => ?_⟩
    have u20 : Same H1 (upd H1 b20 (.lst (w20.map V.str))) := (Same.refl _).new xb20
    have g20 := ((all_nil (H := H1)).mono u20).app (All5.one (H := upd H1 b20 (.lst (w20.map V.str))) (a := b20) (ws := w20) upd_same y20.1 y20.2.1 y20.2.2)
    generalize upd H1 b20 (.lst (w20.map V.str)) = G20 at u20 g20 ⊢
    refine ⟨y21.fit, fun b21 xb21 => ?_⟩
    have u21 : Same G20 (upd G20 b21 (.lst (w21.map V.str))) := (Same.refl _).new xb21
    have g21 := (g20.mono u21).app (All5.one (H := upd G20 b21 (.lst (w21.map V.str))) (a := b21) (ws := w21) upd_same y21.1 y21.2.1 y21.2.2)
    generalize upd G20 b21 (.lst (w21.map V.str)) = G21 at u21 g21 ⊢
    refine ⟨y22.fit, fun b22 xb22 => ?_⟩
    have u22 : Same G21 (upd G21 b22 (.lst (w22.map V.str))) := (Same.refl _).new xb22
    have g22 := (g21.mono u22).app (All5.one (H := upd G21 b22 (.lst (w22.map V.str))) (a := b22) (ws := w22) upd_same y22.1 y22.2.1 y22.2.2)
    generalize upd G21 b22 (.lst (w22.map V.str)) = G22 at u22 g22 ⊢
    have w2 := ((u20).trans u21).trans u22
    refine ⟨(by show 3 ≤ sizeLine; decide), fun m2 gm2 => ⟨l1, m2, _, _, rfl, rfl, upd_keep (w2 _ _ hl1) gm2, upd_same, (by show 8 + 3 ≤ sizeLine; decide), fun l2 gl2 => ?_⟩⟩
    have S2 : Same H (upd (upd G22 m2 (.lst [.ref b20, .ref b21, .ref b22])) l2 (.lst (([.ref b00, .ref b01, .ref b02, .ref b03] ++ [.ref b10, .ref b11, .ref b12, .ref b13]) ++ [.ref b20, .ref b21, .ref b22]))) := S1.trans ((w2.new gm2).new gl2)
    have hl2 : (upd (upd G22 m2 (.lst [.ref b20, .ref b21, .ref b22])) l2 (.lst (([.ref b00, .ref b01, .ref b02, .ref b03] ++ [.ref b10, .ref b11, .ref b12, .ref b13]) ++ [.ref b20, .ref b21, .ref b22]))) l2 = some (.lst (([.ref b00, .ref b01, .ref b02, .ref b03] ++ [.ref b10, .ref b11, .ref b12, .ref b13]) ++ [.ref b20, .ref b21, .ref b22])) := upd_same
    have all2 : All5 (upd (upd G22 m2 (.lst [.ref b20, .ref b21, .ref b22])) l2 (.lst (([.ref b00, .ref b01, .ref b02, .ref b03] ++ [.ref b10, .ref b11, .ref b12, .ref b13]) ++ [.ref b20, .ref b21, .ref b22]))) (([.ref b00, .ref b01, .ref b02, .ref b03] ++ [.ref b10, .ref b11, .ref b12, .ref b13]) ++ [.ref b20, .ref b21, .ref b22]) := (all1.mono ((w2.new gm2).new gl2)).app (g22.mono (((Same.refl G22).new gm2).new gl2))
    generalize upd (upd G22 m2 (.lst [.ref b20, .ref b21, .ref b22])) l2 (.lst (([.ref b00, .ref b01, .ref b02, .ref b03] ++ [.ref b10, .ref b11, .ref b12, .ref b13]) ++ [.ref b20, .ref b21, .ref b22])) = H2 at S2 hl2 all2 ⊢
    refine ⟨_, rfl, ?_⟩
    refine ⟨y30.fit, fun b30 xb30 => ?_⟩
    have u30 : Same H2 (upd H2 b30 (.lst (w30.map V.str))) := (Same.refl _).new xb30
    have g30 := ((all_nil (H := H2)).mono u30).app (All5.one (H := upd H2 b30 (.lst (w30.map V.str))) (a := b30) (ws := w30) upd_same y30.1 y30.2.1 y30.2.2)
    generalize upd H2 b30 (.lst (w30.map V.str)) = G30 at u30 g30 ⊢
    refine ⟨y31.fit, fun b31 xb31 => ?_⟩
    have u31 : Same G30 (upd G30 b31 (.lst (w31.map V.str))) := (Same.refl _).new xb31
    have g31 := (g30.mono u31).app (All5.one (H := upd G30 b31 (.lst (w31.map V.str))) (a := b31) (ws := w31) upd_same y31.1 y31.2.1 y31.2.2)
    generalize upd G30 b31 (.lst (w31.map V.str)) = G31 at u31 g31 ⊢
    refine ⟨y32.fit, fun b32 xb32 => ?_⟩
    have u32 : Same G31 (upd G31 b32 (.lst (w32.map V.str))) := (Same.refl _).new xb32
    have g32 := (g31.mono u32).app (All5.one (H := upd G31 b32 (.lst (w32.map V.str))) (a := b32) (ws := w32) upd_same y32.1 y32.2.1 y32.2.2)
    generalize upd G31 b32 (.lst (w32.map V.str)) = G32 at u32 g32 ⊢
    refine ⟨y33.fit, fun b33 xb33 => ?_⟩
    have u33 : Same G32 (upd G32 b33 (.lst (w33.map V.str))) := (Same.refl _).new xb33
    have g33 := (g32.mono u33).app (All5.one (H := upd G32 b33 (.lst (w33.map V.str))) (a := b33) (ws := w33) upd_same y33.1 y33.2.1 y33.2.2)
    generalize upd G32 b33 (.lst (w33.map V.str)) = G33 at u33 g33 ⊢
    have w3 := (((u30).trans u31).trans u32).trans u33
    refine ⟨(by show 4 ≤ sizeLine; decide), fun m3 gm3 => ⟨l2, m3, _, _, rfl, rfl, upd_keep (w3 _ _ hl2) gm3, upd_same, (by show 11 + 4 ≤ sizeLine; decide), fun l3 gl3 => ?_⟩⟩
    have f3 : H l3 = none := (S2.trans (w3.new gm3)).free gl3
    have S3 : Same H (upd (upd G33 m3 (.lst [.ref b30, .ref b31, .ref b32, .ref b33])) l3 (.lst ((([.ref b00, .ref b01, .ref b02, .ref b03] ++ [.ref b10, .ref b11, .ref b12, .ref b13]) ++ [.ref b20, .ref b21, .ref b22]) ++ [.ref b30, .ref b31, .ref b32, .ref b33]))) := S2.trans ((w3.new gm3).new gl3)
    have hl3 : (upd (upd G33 m3 (.lst [.ref b30, .ref b31, .ref b32, .ref b33])) l3 (.lst ((([.ref b00, .ref b01, .ref b02, .ref b03] ++ [.ref b10, .ref b11, .ref b12, .ref b13]) ++ [.ref b20, .ref b21, .ref b22]) ++ [.ref b30, .ref b31, .ref b32, .ref b33]))) l3 = some (.lst ((([.ref b00, .ref b01, .ref b02, .ref b03] ++ [.ref b10, .ref b11, .ref b12, .ref b13]) ++ [.ref b20, .ref b21, .ref b22]) ++ [.ref b30, .ref b31, .ref b32, .ref b33])) := upd_same
    have all3 : All5 (upd (upd G33 m3 (.lst [.ref b30, .ref b31, .ref b32, .ref b33])) l3 (.lst ((([.ref b00, .ref b01, .ref b02, .ref b03] ++ [.ref b10, .ref b11, .ref b12, .ref b13]) ++ [.ref b20, .ref b21, .ref b22]) ++ [.ref b30, .ref b31, .ref b32, .ref b33]))) ((([.ref b00, .ref b01, .ref b02, .ref b03] ++ [.ref b10, .ref b11, .ref b12, .ref b13]) ++ [.ref b20, .ref b21, .ref b22]) ++ [.ref b30, .ref b31, .ref b32, .ref b33]) := (all2.mono ((w3.new gm3).new gl3)).app (g33.mono (((Same.refl G33).new gm3).new gl3))
    generalize upd (upd G33 m3 (.lst [.ref b30, .ref b31, .ref b32, .ref b33])) l3 (.lst ((([.ref b00, .ref b01, .ref b02, .ref b03] ++ [.ref b10, .ref b11, .ref b12, .ref b13]) ++ [.ref b20, .ref b21, .ref b22]) ++ [.ref b30, .ref b31, .ref b32, .ref b33])) = H3 at S3 hl3 all3 ⊢
    refine ⟨_, rfl, .inl ⟨rfl, _, SqL.of hl3⟩, ?_⟩
    refine ⟨y4.fit, fun b4 xb4 => ?_⟩
    have u4 : Same H3 (upd H3 b4 (.lst (w4.map V.str))) := (Same.refl _).new xb4
    have g4 := (all3.mono u4).app (All5.one (H := upd H3 b4 (.lst (w4.map V.str))) (a := b4) (ws := w4) upd_same y4.1 y4.2.1 y4.2.2)
    generalize upd H3 b4 (.lst (w4.map V.str)) = G4 at u4 g4 ⊢
    refine ⟨l3, _, _, rfl, rfl, u4 _ _ hl3, (by show 15 < sizeLine; decide), ?_⟩
    have S5 := (S3.trans u4).put (o := .lst (((([.ref b00, .ref b01, .ref b02, .ref b03] ++ [.ref b10, .ref b11, .ref b12, .ref b13]) ++ [.ref b20, .ref b21, .ref b22]) ++ [.ref b30, .ref b31, .ref b32, .ref b33]) ++ [.ref b4])) f3
    have a5 := all_upd g4 (ys := (((([.ref b00, .ref b01, .ref b02, .ref b03] ++ [.ref b10, .ref b11, .ref b12, .ref b13]) ++ [.ref b20, .ref b21, .ref b22]) ++ [.ref b30, .ref b31, .ref b32, .ref b33]) ++ [.ref b4])) (u4 _ _ hl3)
    have h5 : upd G4 l3 (.lst (((([.ref b00, .ref b01, .ref b02, .ref b03] ++ [.ref b10, .ref b11, .ref b12, .ref b13]) ++ [.ref b20, .ref b21, .ref b22]) ++ [.ref b30, .ref b31, .ref b32, .ref b33]) ++ [.ref b4])) l3 = _ := upd_same
    have j0 : 0 ≤ n % 16 := Int.emod_nonneg _ (by decide)
    have j1 : n % 16 < 16 := Int.emod_lt_of_pos _ (by decide)
    obtain ⟨v, hv, hl⟩ := at_all a5 j0 (by show n % 16 < ((16 : Nat) : Int); omega)
    exact ⟨_, rfl, _, rfl, _, _, rfl, rfl, (by show (0 : Int) < 16; decide), l3, _, _, _, rfl, rfl, SqL.of h5, hv, q v _ S5 hl⟩
theorem cut5to (ws : List Str) (k : Nat) : cutV (ws.map V.str) none (some (k : Int)) = (ws.take k).map V.str := by
  unfold cutV
  rw [HT.sIx_none, HT.sIx_nat, List.drop_zero, Nat.sub_zero, List.map_take, List.take_eq_take_iff]
  omega
theorem cut5from (ws : List Str) (k : Nat) : cutV (ws.map V.str) (some (k : Int)) none = (ws.drop k).map V.str := by
  unfold cutV
  rw [HT.sIx_none, HT.sIx_nat, List.map_drop]
  by_cases h : k ≤ (ws.map V.str).length
  · rw [Nat.min_eq_left h, List.take_of_length_le (by rw [List.length_drop]; omega)]
  · rw [Nat.min_eq_right (by omega), List.drop_of_length_le (Nat.le_refl _), List.drop_of_length_le (by omega), List.take_nil]
structure Wh (j : Nat) (ws : List Str) : Prop where
  ne : ws ≠ []
  few : ws.length ≤ 12 + j
  wd : ∀ x ∈ ws, Wd5 x
theorem Wh.up {j : Nat} {ws : List Str} (h : Wh j ws) : Wh (j + 1) ws := ⟨h.ne, by have := h.few; omega, h.wd⟩
theorem Wh.ins {j k : Nat} {ws : List Str} {x : Str} (h : Wh j ws) (hx : Wd5 x) : Wh (j + 1) (ws.take k ++ [x] ++ ws.drop k) := by
  refine ⟨by simp, ?_, fun y hy => ?_⟩
  · have := h.few
    simp only [List.length_append, List.length_take, List.length_drop, List.length_singleton]
    omega
  · rcases List.mem_append.mp hy with z | z
    · rcases List.mem_append.mp z with z | z
      · exact h.wd y (List.mem_of_mem_take z)
      · rw [List.mem_singleton.mp z]; exact hx
    · exact h.wd y (List.mem_of_mem_drop z)
theorem Wh.del {j k : Nat} {ws : List Str} (h : Wh j ws) (h1 : 1 < ws.length) : Wh (j + 1) (ws.take k ++ ws.drop (k + 1)) := by
  refine ⟨fun e => ?_, ?_, fun y hy => ?_⟩
  · have := congrArg List.length e
    simp only [List.length_append, List.length_take, List.length_drop, List.length_nil] at this
    omega
  · have := h.few
    simp only [List.length_append, List.length_take, List.length_drop]
    omega
  · rcases List.mem_append.mp hy with z | z
    · exact h.wd y (List.mem_of_mem_take z)
    · exact h.wd y (List.mem_of_mem_drop z)
theorem Wh.put {j k : Nat} {ws : List Str} {x : Str} (h : Wh j ws) (hx : Wd5 x) : Wh (j + 1) (ws.take k ++ [x] ++ ws.drop (k + 1)) := by
  refine ⟨by simp, ?_, fun y hy => ?_⟩
  · have := h.few
    simp only [List.length_append, List.length_take, List.length_drop, List.length_singleton]
    omega
  · rcases List.mem_append.mp hy with z | z
    · rcases List.mem_append.mp z with z | z
      · exact h.wd y (List.mem_of_mem_take z)
      · rw [List.mem_singleton.mp z]; exact hx
    · exact h.wd y (List.mem_of_mem_drop z)
def spWords5 : Sp := fun vs H Q _ => ∃ c : Int, vs = [.int c] ∧ ∀ (l : Addr) (ws : List Str) (H' : Hp), Same H H' → H' l = some (.lst (ws.map V.str)) → Drawn ws → Q (.ref l) H'
theorem ok_words5 (T : Txt K mg) : L2.Cl P w K mg base 2 "_law_words" ["_law_cell"] spWords5 := by
  have C_law_stream := ok_stream (P := P) (w := w) (base := base) T
  have C_law_begun := ok_begun5 (P := P) (w := w) (base := base) T
  have C_law_word := ok_word5 (P := P) (w := w) (base := base) T
  refine Cl.of T.d_law_words sc_law_words (fun vs H Q E h => ?_) (fun _ _ _ _ _ _ us hl => match us, hl with | [_], _ => rfl) (fun f cdv A0 outer s H vs Q E hr h => ?_)
  · obtain ⟨n, rfl, _⟩ := h
    rfl
  · obtain ⟨c, rfl, q⟩ := h
    refine ⟨_, (pss_cons (ps_set (i := 1) sc_law_words.nd rfl (Or.inl rfl) (pe_fn C_law_stream hr (by rfl) (pa_cons (pv 0) (pa_cons pe_int pa_nil))))
      (pss_cons (ps_set (i := 2) sc_law_words.nd rfl (Or.inl rfl) (pe_fn C_law_begun hr (by rfl) (pa_cons (pe_ix ix_list (pv 1) pe_int (fun _ _ => rfl)) pa_nil)))
      (pss_cons (ps_for PassesOwn.never rfl (pi_range1 (by rfl) T.n_range (pa_cons (pe_op op_mod (pe_ix ix_list (pv 1) pe_int (fun _ _ => rfl)) pe_int) pa_nil)) (pg_name (i := 3) sc_law_words.nd rfl (Or.inl rfl))
        (pss_cons (ps_set (i := 4) sc_law_words.nd rfl (Or.inl rfl) (pe_op op_mod (pe_ix ix_list (pv 1) (pe_op op_add pe_int (pe_op op_mul pe_int (pv 3))) (fun _ _ => rfl)) pe_int))
        (pss_cons (ps_set (i := 5) sc_law_words.nd rfl (Or.inl rfl) (pe_op op_mod (pe_ix ix_list (pv 1) (pe_op op_add pe_int (pe_op op_mul pe_int (pv 3))) (fun _ _ => rfl)) (pe_op op_add (pe_callB call_len_seq (by rfl) T.n_len PySem.boot_len (pa_cons (pv 2) pa_nil)) pe_int)))
        (pss_cons (ps_set (i := 6) sc_law_words.nd rfl (Or.inl rfl) (pe_fn C_law_word hr (by rfl) (pa_cons (pe_ix ix_list (pv 1) (pe_op op_add pe_int (pe_op op_mul pe_int (pv 3))) (fun _ _ => rfl)) pa_nil)))
        (pss_cons (ps_if (pt_cmpR op_eq (pv 4) pe_int (nomark _))
          (pss_one (ps_set (i := 2) sc_law_words.nd rfl (Or.inl rfl) (pe_op op_cat (pe_op op_cat (pe_slice sl_list (pv 2) po_none (po_some (pv 5))) (pe_lst (pa_cons (pv 6) pa_nil))) (pe_slice sl_list (pv 2) (po_some (pv 5)) po_none)))) pss_nil)
        (pss_cons (ps_if (PW.pt (pw_and (pt_cmpR op_eq (pv 4) pe_int (nomark _)) (pw_and1 (pt_cmpR op_gt (pe_callB call_len_seq (by rfl) T.n_len PySem.boot_len (pa_cons (pv 2) pa_nil)) pe_int (nomark _)))))
          (pss_one (ps_set (i := 2) sc_law_words.nd rfl (Or.inl rfl) (pe_op op_cat (pe_slice sl_list (pv 2) po_none (po_some (pv 5))) (pe_slice sl_list (pv 2) (po_some (pe_op op_add (pv 5) pe_int)) po_none)))) pss_nil)
        (pss_one (ps_if (PW.pt (pw_and (pt_cmpR op_eq (pv 4) pe_int (nomark _)) (pw_and1 (pt_cmpR op_lt (pv 5) (pe_callB call_len_seq (by rfl) T.n_len PySem.boot_len (pa_cons (pv 2) pa_nil)) (nomark _)))))
          (pss_one (ps_set (i := 2) sc_law_words.nd rfl (Or.inl rfl) (pe_op op_cat (pe_op op_cat (pe_slice sl_list (pv 2) po_none (po_some (pv 5))) (pe_lst (pa_cons (pv 6) pa_nil))) (pe_slice sl_list (pv 2) (po_some (pe_op op_add (pv 5) pe_int)) po_none)))) pss_nil))))))))
      (pss_one (ps_ret (pv 2)))))), ?_⟩
    refine ⟨_, rfl, c, rfl, fun L ns H1 s1 hL hnl hn => ?_⟩
    have at5 : ∀ {i : Int}, 0 ≤ i → i < 11 → ∃ m : Int, atI (ns.map V.int) i = some (.int m) ∧ 0 ≤ m := fun {i} h0 h1 => by
      refine ⟨_, atI_map V.int ns 0 h0 (by rw [hnl]; exact h1), hn _ ?_⟩
      rw [List.getD_eq_getElem?_getD, List.getElem?_eq_getElem (by omega)]
      exact List.getElem_mem _
    obtain ⟨m0, e0, p0⟩ := at5 (i := 0) (by decide) (by decide)
    obtain ⟨m1, e1, p1⟩ := at5 (i := 1) (by decide) (by decide)
    refine ⟨_, rfl, L, _, _, _, rfl, rfl, SqL.of hL, e0, m0, rfl, p0, fun v H2 s2 hv => ?_⟩
    obtain ⟨b, ws, rfl, hb, hne, hfew, hwd⟩ := hv
    have hL2 := s2 _ _ hL
    have r0 : 0 ≤ m1 % 4 := Int.emod_nonneg _ (by decide)
    have r1 : m1 % 4 < 4 := Int.emod_lt_of_pos _ (by decide)
    refine ⟨_, rfl, L, _, _, _, rfl, rfl, SqL.of hL2, e1, _, _, rfl, rfl, (by show (0 : Int) < 4; decide), _, rfl, (by show -(2 ^ 62) ≤ m1 % 4; omega), (by show m1 % 4 < 2 ^ 62; omega), ?_⟩
    refine for_range (fun i σ H3 => ∃ (b : Addr) (ws : List Str) (v3 v4 v5 v6 : Option V), σ = [some (.int c), some (.ref L), some (.ref b), v3, v4, v5, v6] ∧ Same H1 H3 ∧ H3 b = some (.lst (ws.map V.str)) ∧ Wh i ws)
      ⟨b, ws, _, _, _, _, rfl, s2, hb, ⟨hne, hfew, hwd⟩⟩ ?_ ?_
    · rintro i σ H3 hi ⟨b, ws, v3, v4, v5, v6, rfl, s3, hb3, hw⟩
      have hi3 : i ≤ 2 := by omega
      have hfew := hw.few
      have hws : (ws.map V.str).length = ws.length := List.length_map ..
      have hL3 := s3 _ _ hL
      obtain ⟨n2, e2, p2⟩ := at5 (i := 2 + 3 * (0 + (i : Int))) (by omega) (by omega)
      obtain ⟨n3, e3, p3⟩ := at5 (i := 3 + 3 * (0 + (i : Int))) (by omega) (by omega)
      obtain ⟨n4, e4, p4⟩ := at5 (i := 4 + 3 * (0 + (i : Int))) (by omega) (by omega)
      have w0 : 0 ≤ n2 % 3 := Int.emod_nonneg _ (by decide)
      have w1 : n2 % 3 < 3 := Int.emod_lt_of_pos _ (by decide)
      have cm : CMul 3 (0 + (i : Int)) := .inl ⟨by decide, by decide⟩
      obtain ⟨k, hk⟩ : ∃ k : Nat, n3 % (((ws.map V.str).length : Int) + 1) = (k : Int) := ⟨(n3 % (((ws.map V.str).length : Int) + 1)).toNat, (Int.toNat_of_nonneg (Int.emod_nonneg _ (by omega))).symm⟩
      refine ⟨_, rfl, _, rfl, _, _, rfl, rfl, cm, _, _, rfl, rfl, L, _, _, _, rfl, rfl, SqL.of hL3, e2, _, _, rfl, rfl, (by show (0 : Int) < 3; decide), ?_⟩
      refine ⟨_, rfl, _, rfl, _, _, rfl, rfl, cm, _, _, rfl, rfl, L, _, _, _, rfl, rfl, SqL.of hL3, e3, _, rfl, b, _, rfl, .inl (SqL.of hb3), _, _, rfl, rfl, _, _, rfl, rfl, (by show (0 : Int) < (((ws.map V.str).length : Int) + 1); omega), ?_⟩
      show gName 5 (V.int (n3 % (((ws.map V.str).length : Int) + 1))) _ _ _
      rw [hk]
      refine ⟨_, rfl, _, rfl, _, _, rfl, rfl, cm, _, _, rfl, rfl, L, _, _, _, rfl, rfl, SqL.of hL3, e4, n4, rfl, p4, fun x H4 s4 hx => ?_⟩
      have hb4 := s4 _ _ hb3
      have S4 := s3.trans s4
      show gName 6 (V.str x) [some (.int c), some (.ref L), some (.ref b), some (.int (0 + (i : Int))), some (.int (n2 % 3)), some (.int (k : Int)), v6] H4 _
      generalize hway : n2 % 3 = way at w0 w1 ⊢
      clear hway hk e2 e3 e4 p2 p3 p4 s4 hb3 hL3
      rcases (show way = 0 ∨ way = 1 ∨ way = 2 by omega) with rfl | rfl | rfl
      · refine ⟨_, rfl, rfl, _, rfl, ite2I (fun _ => ?_) (fun c1 => absurd rfl c1)⟩
        refine ⟨_, rfl, _, rfl, _, rfl, b, _, rfl, SqL.of hb4, fun d1 g1 => ?_⟩
        have u1 := (Same.refl H4).new (o := .lst (cutV (ws.map V.str) none (some (k : Int)))) g1
        refine ⟨_, rfl, (by show 1 ≤ sizeLine; decide), fun d2 g2 => ?_⟩
        have u2 := u1.new (o := .lst [.str x]) g2
        refine ⟨d1, d2, _, _, rfl, rfl, upd_keep upd_same g2, upd_same, ?_, fun d3 g3 => ?_⟩
        · have := cutV_length (ws.map V.str) none (some (k : Int))
          exact Nat.le_of_lt (small1000 (by show _ + 1 ≤ _; omega))
        have u3 := u2.new (o := .lst (cutV (ws.map V.str) none (some (k : Int)) ++ [.str x])) g3
        refine ⟨_, rfl, _, rfl, _, rfl, b, _, rfl, SqL.of (u3 _ _ hb4), fun d4 g4 => ?_⟩
        have u4 := u3.new (o := .lst (cutV (ws.map V.str) (some (k : Int)) none)) g4
        refine ⟨d3, d4, _, _, rfl, rfl, upd_keep upd_same g4, upd_same, ?_, fun d5 g5 => ?_⟩
        · have z1 := cutV_length (ws.map V.str) none (some (k : Int))
          have z2 := cutV_length (ws.map V.str) (some (k : Int)) none
          rw [List.length_append]
          exact Nat.le_of_lt (small1000 (by show _ + 1 + _ ≤ _; omega))
        have u5 := u4.new (o := .lst (cutV (ws.map V.str) none (some (k : Int)) ++ [.str x] ++ cutV (ws.map V.str) (some (k : Int)) none)) g5
        have hn5 : ∀ G : Hp, upd G d5 (.lst (cutV (ws.map V.str) none (some (k : Int)) ++ [.str x] ++ cutV (ws.map V.str) (some (k : Int)) none)) d5 = some (.lst ((ws.take k ++ [x] ++ ws.drop k).map V.str)) := by
          intro G
          rw [upd_same, cut5to, cut5from, List.map_append, List.map_append]
          rfl
        refine ⟨_, rfl, rfl, _, rfl, ite2I (fun c1 => absurd c1 (by decide)) (fun _ => ?_)⟩
        refine ⟨_, rfl, rfl, _, rfl, ite2I (fun c1 => absurd c1 (by decide)) (fun _ => ?_)⟩
        exact ⟨d5, _, _, _, _, _, rfl, S4.trans u5, hn5 _, hw.ins hx⟩
      · refine ⟨_, rfl, rfl, _, rfl, ite2I (fun c1 => absurd c1 (by decide)) (fun _ => ?_)⟩
        refine ⟨_, rfl, rfl, _, rfl, ite2I (fun _ => ?_) (fun c1 => absurd rfl c1)⟩
        refine ⟨_, rfl, b, _, rfl, .inl (SqL.of hb4), _, _, rfl, rfl, _, rfl, ite2 (fun c1 => ?_) (fun c1 => ?_)⟩
        · have c2 : 1 < ws.length := by
            have := of_decide_eq_true c1
            omega
          refine ⟨_, rfl, _, rfl, _, rfl, b, _, rfl, SqL.of hb4, fun d1 g1 => ?_⟩
          have u1 := (Same.refl H4).new (o := .lst (cutV (ws.map V.str) none (some (k : Int)))) g1
          refine ⟨_, rfl, _, rfl, _, _, rfl, rfl, _, rfl, b, _, rfl, SqL.of (u1 _ _ hb4), fun d2 g2 => ?_⟩
          have u2 := u1.new (o := .lst (cutV (ws.map V.str) (some ((k : Int) + 1)) none)) g2
          refine ⟨d1, d2, _, _, rfl, rfl, upd_keep upd_same g2, upd_same, ?_, fun d3 g3 => ?_⟩
          · have z1 := cutV_length (ws.map V.str) none (some (k : Int))
            have z2 := cutV_length (ws.map V.str) (some ((k : Int) + 1)) none
            exact Nat.le_of_lt (small1000 (by omega))
          have u3 := u2.new (o := .lst (cutV (ws.map V.str) none (some (k : Int)) ++ cutV (ws.map V.str) (some ((k : Int) + 1)) none)) g3
          have hn3 : ∀ G : Hp, upd G d3 (.lst (cutV (ws.map V.str) none (some (k : Int)) ++ cutV (ws.map V.str) (some ((k : Int) + 1)) none)) d3 = some (.lst ((ws.take k ++ ws.drop (k + 1)).map V.str)) := by
            intro G
            rw [upd_same, cut5to, show ((k : Int) + 1) = ((k + 1 : Nat) : Int) by omega, cut5from, List.map_append]
          refine ⟨_, rfl, rfl, _, rfl, ite2I (fun c1 => absurd c1 (by decide)) (fun _ => ?_)⟩
          exact ⟨d3, _, _, _, _, _, rfl, S4.trans u3, hn3 _, hw.del c2⟩
        · refine ⟨_, rfl, rfl, _, rfl, ite2I (fun c1 => absurd c1 (by decide)) (fun _ => ?_)⟩
          exact ⟨b, _, _, _, _, _, rfl, S4, hb4, hw.up⟩
      · refine ⟨_, rfl, rfl, _, rfl, ite2I (fun c1 => absurd c1 (by decide)) (fun _ => ?_)⟩
        refine ⟨_, rfl, rfl, _, rfl, ite2I (fun c1 => absurd c1 (by decide)) (fun _ => ?_)⟩
        refine ⟨_, rfl, rfl, _, rfl, ite2I (fun _ => ?_) (fun c1 => absurd rfl c1)⟩
        refine ⟨_, rfl, _, rfl, b, _, rfl, .inl (SqL.of hb4), _, _, rfl, rfl, _, rfl, ite2 (fun c1 => ?_) (fun c1 => ?_)⟩
        · refine ⟨_, rfl, _, rfl, _, rfl, b, _, rfl, SqL.of hb4, fun d1 g1 => ?_⟩
          have u1 := (Same.refl H4).new (o := .lst (cutV (ws.map V.str) none (some (k : Int)))) g1
          refine ⟨_, rfl, (by show 1 ≤ sizeLine; decide), fun d2 g2 => ?_⟩
          have u2 := u1.new (o := .lst [.str x]) g2
          refine ⟨d1, d2, _, _, rfl, rfl, upd_keep upd_same g2, upd_same, ?_, fun d3 g3 => ?_⟩
          · have := cutV_length (ws.map V.str) none (some (k : Int))
            exact Nat.le_of_lt (small1000 (by show _ + 1 ≤ _; omega))
          have u3 := u2.new (o := .lst (cutV (ws.map V.str) none (some (k : Int)) ++ [.str x])) g3
          refine ⟨_, rfl, _, rfl, _, _, rfl, rfl, _, rfl, b, _, rfl, SqL.of (u3 _ _ hb4), fun d4 g4 => ?_⟩
          have u4 := u3.new (o := .lst (cutV (ws.map V.str) (some ((k : Int) + 1)) none)) g4
          refine ⟨d3, d4, _, _, rfl, rfl, upd_keep upd_same g4, upd_same, ?_, fun d5 g5 => ?_⟩
          · have z1 := cutV_length (ws.map V.str) none (some (k : Int))
            have z2 := cutV_length (ws.map V.str) (some ((k : Int) + 1)) none
            rw [List.length_append]
            exact Nat.le_of_lt (small1000 (by show _ + 1 + _ ≤ _; omega))
          have u5 := u4.new (o := .lst (cutV (ws.map V.str) none (some (k : Int)) ++ [.str x] ++ cutV (ws.map V.str) (some ((k : Int) + 1)) none)) g5
          have hn5 : ∀ G : Hp, upd G d5 (.lst (cutV (ws.map V.str) none (some (k : Int)) ++ [.str x] ++ cutV (ws.map V.str) (some ((k : Int) + 1)) none)) d5 = some (.lst ((ws.take k ++ [x] ++ ws.drop (k + 1)).map V.str)) := by
            intro G
            rw [upd_same, cut5to, show ((k : Int) + 1) = ((k + 1 : Nat) : Int) by omega, cut5from, List.map_append, List.map_append]
            rfl
          exact ⟨d5, _, _, _, _, _, rfl, S4.trans u5, hn5 _, hw.put hx⟩
        · exact ⟨b, _, _, _, _, _, rfl, S4, hb4, hw.up⟩
    · rintro σ H3 ⟨b, ws, v3, v4, v5, v6, rfl, s3, hb3, hw⟩
      exact ⟨_, rfl, q b ws H3 (s1.trans s3) hb3 ⟨hw.ne, by have := hw.few; omega, hw.wd⟩⟩
def spLaw (K : PySem.W.Frag) : Sp := fun vs H Q _ => ∃ (a : Addr) (ns : List Int), vs = [.ref a] ∧ SqL K H a (ns.map V.int) ∧ ns.length ≤ 63 ∧ ∀ H', Q (.bl true) H'
theorem law_fn {f : Addr} {fd : FuncData} (F : Fun K "law" "law" s_law f fd) (T : Txt K mg) : FnOk P w K mg base CX0 11 f fd ["_law_script"] (spLaw K) := by
  obtain ⟨A, hX⟩ := T.xs
  have C_law_words := ok_words5 (P := P) (w := w) (base := base) T
  have C_law_right := ok_right5 (P := P) (w := w) (base := base) T hX
  refine F.ok sc_law (fun vs H Q E h => ?_) (fun cdv A0 outer s H vs Q E hr h => ?_)
  · obtain ⟨a, ns, rfl, _⟩ := h
    rfl
  · obtain ⟨a, ns, rfl, hS, hlen, q⟩ := h
    refine ⟨_, (pss_cons (ps_for PassesOwn.never rfl (pi_list (pe_slice sl_list (pv 0) po_none (po_some pe_int))) (pg_name (i := 1) sc_law.nd rfl (Or.inl rfl))
        (pss_one (ps_if (pt_not (pt_val (pe_fn C_law_right hr (by rfl) (pa_cons (pe_fn C_law_words hr (by rfl) (pa_cons (pv 1) pa_nil)) pa_nil))))
          (pss_one (ps_ret pe_bl)) pss_nil)))
      (pss_one (ps_ret pe_bl))), ?_⟩
    refine ⟨_, rfl, _, rfl, a, _, rfl, hS, fun L gL => ?_⟩
    obtain ⟨ms, hms⟩ : ∃ ms : List Int, cutV (ns.map V.int) none (some 24) = ms.map V.int := by
      refine ⟨ns.take (min 24 (ns.map V.int).length), ?_⟩
      unfold cutV
      rw [HT.sIx_none, show (some (24 : Int)) = some ((24 : Nat) : Int) from rfl, HT.sIx_nat, List.drop_zero, Nat.sub_zero, List.map_take]
    rw [hms]
    have s1 : Same H (upd H L (.lst (ms.map V.int))) := (Same.refl H).new gL
    have hL1 : upd H L (.lst (ms.map V.int)) L = some (.lst (ms.map V.int)) := upd_same
    generalize upd H L (.lst (ms.map V.int)) = H1 at s1 hL1 ⊢
    refine ⟨L, rfl, ⟨_, SqL.of hL1⟩, for_list (K := K) (a := L) (xs := ms.map V.int) (fun i σ H2 => ∃ v1 : Option V, σ = [some (.ref a), v1] ∧ Same H1 H2) ⟨_, rfl, Same.refl H1⟩ (fun i σ H2 _ ⟨_, _, s2⟩ => SqL.of (s2 _ _ hL1)) ?_ ?_⟩
    · rintro i y σ H2 hy ⟨v1, rfl, s2⟩
      obtain ⟨x, rfl⟩ : ∃ x, y = .int x := by
        rw [List.getElem?_map] at hy
        cases e : ms[i]? with
        | none => rw [e] at hy; cases hy
        | some x => rw [e] at hy; exact ⟨x, (Option.some.inj hy).symm⟩
      refine ⟨_, rfl, x, rfl, fun l ws H3 s3 hl hd => ?_⟩
      exact ⟨l, ws, rfl, hl, hd, fun H4 s4 => ⟨_, rfl, _, rfl, (s2.trans s3).trans s4⟩⟩
    · rintro σ H2 ⟨v1, rfl, s2⟩
      exact q _
end
end K05
set_option Elab.async false
set_option linter.all false
set_option maxRecDepth 100000
namespace K05
open PySem L2
theorem all_mk {l : PySem.W.OpenLaw} {w : World} {K : PySem.W.Frag} {h : Heap} {mg : Str → Option Value} {fa : Addr} (X : K.In h) (G : h.Ns mainGlobals mg) (hfa : mg "law" = some (.ref fa))
    {f0 : Addr} {od0 an0 : Option Addr} {sl0 : Array (Option Value)} {oc0 kV0 dc0 pm0 cd0 ct0 : Value}
    {f1 : Addr} {od1 an1 : Option Addr} {sl1 : Array (Option Value)} {oc1 kV1 dc1 pm1 cd1 ct1 : Value}
    {f2 : Addr} {od2 an2 : Option Addr} {sl2 : Array (Option Value)} {oc2 kV2 dc2 pm2 cd2 ct2 : Value}
    {f3 : Addr} {od3 an3 : Option Addr} {sl3 : Array (Option Value)} {oc3 kV3 dc3 pm3 cd3 ct3 : Value}
    {f4 : Addr} {od4 an4 : Option Addr} {sl4 : Array (Option Value)} {oc4 kV4 dc4 pm4 cd4 ct4 : Value}
    {f5 : Addr} {od5 an5 : Option Addr} {sl5 : Array (Option Value)} {oc5 kV5 dc5 pm5 cd5 ct5 : Value}
    {f6 : Addr} {od6 an6 : Option Addr} {sl6 : Array (Option Value)} {oc6 kV6 dc6 pm6 cd6 ct6 : Value}
    {f7 : Addr} {od7 an7 : Option Addr} {sl7 : Array (Option Value)} {oc7 kV7 dc7 pm7 cd7 ct7 : Value}
    {f8 : Addr} {od8 an8 : Option Addr} {sl8 : Array (Option Value)} {oc8 kV8 dc8 pm8 cd8 ct8 : Value}
    {f9 : Addr} {od9 an9 : Option Addr} {sl9 : Array (Option Value)} {oc9 kV9 dc9 pm9 cd9 ct9 : Value}
    {f10 : Addr} {od10 an10 : Option Addr} {sl10 : Array (Option Value)} {oc10 kV10 dc10 pm10 cd10 ct10 : Value}
    {f11 : Addr} {od11 an11 : Option Addr} {sl11 : Array (Option Value)} {oc11 kV11 dc11 pm11 cd11 ct11 : Value}
    {f12 : Addr} {od12 an12 : Option Addr} {sl12 : Array (Option Value)} {oc12 kV12 dc12 pm12 cd12 ct12 : Value}
    {f13 : Addr} {od13 an13 : Option Addr} {sl13 : Array (Option Value)} {oc13 kV13 dc13 pm13 cd13 ct13 : Value}
    {f14 : Addr} {od14 an14 : Option Addr} {sl14 : Array (Option Value)} {oc14 kV14 dc14 pm14 cd14 ct14 : Value}
    {f15 : Addr} {od15 an15 : Option Addr} {sl15 : Array (Option Value)} {oc15 kV15 dc15 pm15 cd15 ct15 : Value}
    {f16 : Addr} {od16 an16 : Option Addr} {sl16 : Array (Option Value)} {oc16 kV16 dc16 pm16 cd16 ct16 : Value}
    {f17 : Addr} {od17 an17 : Option Addr} {sl17 : Array (Option Value)} {oc17 kV17 dc17 pm17 cd17 ct17 : Value}
    {f18 : Addr} {od18 an18 : Option Addr} {sl18 : Array (Option Value)} {oc18 kV18 dc18 pm18 cd18 ct18 : Value}
    {f19 : Addr} {od19 an19 : Option Addr} {sl19 : Array (Option Value)} {oc19 kV19 dc19 pm19 cd19 ct19 : Value}
    {f20 : Addr} {od20 an20 : Option Addr} {sl20 : Array (Option Value)} {oc20 kV20 dc20 pm20 cd20 ct20 : Value}
    {f21 : Addr} {od21 an21 : Option Addr} {sl21 : Array (Option Value)} {oc21 kV21 dc21 pm21 cd21 ct21 : Value}
    {f22 : Addr} {od22 an22 : Option Addr} {sl22 : Array (Option Value)} {oc22 kV22 dc22 pm22 cd22 ct22 : Value}
    {f23 : Addr} {od23 an23 : Option Addr} {sl23 : Array (Option Value)} {oc23 kV23 dc23 pm23 cd23 ct23 : Value}
    {f24 : Addr} {od24 an24 : Option Addr} {sl24 : Array (Option Value)} {oc24 kV24 dc24 pm24 cd24 ct24 : Value}
    {f25 : Addr} {od25 an25 : Option Addr} {sl25 : Array (Option Value)} {oc25 kV25 dc25 pm25 cd25 ct25 : Value}
    {tk0 : Tok}
    {tk1 : Tok}
    {tk2 : Tok}
    {tk3 : Tok}
    {tk4 : Tok}
    {tk5 : Tok}
    {c_BundleError : Addr}
    {c_NoRow : Addr}
    {cd_c_BundleError : ClassData}
    {cd_c_NoRow : ClassData}
    {fi_NoRow : Addr} {iod_NoRow ian_NoRow : Option Addr} {isl_NoRow : Array (Option Value)} {ioc_NoRow ikV_NoRow idc_NoRow ipm_NoRow icd_NoRow ict_NoRow : Value}
    {jN_NoRow : Addr} {jnm_NoRow jq_NoRow : Str} {jbs_NoRow : List Value} {jh_NoRow : Bool} {jsn_NoRow : List Str} {jsub_NoRow : List Value} {jab_NoRow : Bool} {jcol_NoRow : Option Bool} {jdd_NoRow : Option Addr} {j0_NoRow j1_NoRow j2_NoRow j3_NoRow j5_NoRow : Option Value}
    (a0 : PySem.W.nsIn K mainGlobals "shown_row" = some (some (.ref f0))) (l0 : K.lookup f0 = some ⟨oc0, od0, .func (PySem.W.fnOf "shown_row" "shown_row" (defArgs s_shown_row) (defBody s_shown_row) (defScope s_shown_row) .none kV0 dc0 pm0 an0 cd0 ct0), sl0⟩) (c0 : PySem.W.codeIn K cd0 "shown_row" = true) (k0 : PySem.W.keepIn K (.ref f0) = true)
    (a1 : PySem.W.nsIn K mainGlobals "words_of" = some (some (.ref f1))) (l1 : K.lookup f1 = some ⟨oc1, od1, .func (PySem.W.fnOf "words_of" "words_of" (defArgs s_words_of) (defBody s_words_of) (defScope s_words_of) .none kV1 dc1 pm1 an1 cd1 ct1), sl1⟩) (c1 : PySem.W.codeIn K cd1 "words_of" = true) (k1 : PySem.W.keepIn K (.ref f1) = true)
    (a2 : PySem.W.nsIn K mainGlobals "pair_words" = some (some (.ref f2))) (l2 : K.lookup f2 = some ⟨oc2, od2, .func (PySem.W.fnOf "pair_words" "pair_words" (defArgs s_pair_words) (defBody s_pair_words) (defScope s_pair_words) .none kV2 dc2 pm2 an2 cd2 ct2), sl2⟩) (c2 : PySem.W.codeIn K cd2 "pair_words" = true) (k2 : PySem.W.keepIn K (.ref f2) = true)
    (a3 : PySem.W.nsIn K mainGlobals "sum_words" = some (some (.ref f3))) (l3 : K.lookup f3 = some ⟨oc3, od3, .func (PySem.W.fnOf "sum_words" "sum_words" (defArgs s_sum_words) (defBody s_sum_words) (defScope s_sum_words) .none kV3 dc3 pm3 an3 cd3 ct3), sl3⟩) (c3 : PySem.W.codeIn K cd3 "sum_words" = true) (k3 : PySem.W.keepIn K (.ref f3) = true)
    (a4 : PySem.W.nsIn K mainGlobals "when_words" = some (some (.ref f4))) (l4 : K.lookup f4 = some ⟨oc4, od4, .func (PySem.W.fnOf "when_words" "when_words" (defArgs s_when_words) (defBody s_when_words) (defScope s_when_words) .none kV4 dc4 pm4 an4 cd4 ct4), sl4⟩) (c4 : PySem.W.codeIn K cd4 "when_words" = true) (k4 : PySem.W.keepIn K (.ref f4) = true)
    (a5 : PySem.W.nsIn K mainGlobals "read_row" = some (some (.ref f5))) (l5 : K.lookup f5 = some ⟨oc5, od5, .func (PySem.W.fnOf "read_row" "read_row" (defArgs s_read_row) (defBody s_read_row) (defScope s_read_row) .none kV5 dc5 pm5 an5 cd5 ct5), sl5⟩) (c5 : PySem.W.codeIn K cd5 "read_row" = true) (k5 : PySem.W.keepIn K (.ref f5) = true)
    (a6 : PySem.W.nsIn K mainGlobals "read_bring" = some (some (.ref f6))) (l6 : K.lookup f6 = some ⟨oc6, od6, .func (PySem.W.fnOf "read_bring" "read_bring" (defArgs s_read_bring) (defBody s_read_bring) (defScope s_read_bring) .none kV6 dc6 pm6 an6 cd6 ct6), sl6⟩) (c6 : PySem.W.codeIn K cd6 "read_bring" = true) (k6 : PySem.W.keepIn K (.ref f6) = true)
    (a7 : PySem.W.nsIn K mainGlobals "read_pair" = some (some (.ref f7))) (l7 : K.lookup f7 = some ⟨oc7, od7, .func (PySem.W.fnOf "read_pair" "read_pair" (defArgs s_read_pair) (defBody s_read_pair) (defScope s_read_pair) .none kV7 dc7 pm7 an7 cd7 ct7), sl7⟩) (c7 : PySem.W.codeIn K cd7 "read_pair" = true) (k7 : PySem.W.keepIn K (.ref f7) = true)
    (a8 : PySem.W.nsIn K mainGlobals "read_set" = some (some (.ref f8))) (l8 : K.lookup f8 = some ⟨oc8, od8, .func (PySem.W.fnOf "read_set" "read_set" (defArgs s_read_set) (defBody s_read_set) (defScope s_read_set) .none kV8 dc8 pm8 an8 cd8 ct8), sl8⟩) (c8 : PySem.W.codeIn K cd8 "read_set" = true) (k8 : PySem.W.keepIn K (.ref f8) = true)
    (a9 : PySem.W.nsIn K mainGlobals "read_say" = some (some (.ref f9))) (l9 : K.lookup f9 = some ⟨oc9, od9, .func (PySem.W.fnOf "read_say" "read_say" (defArgs s_read_say) (defBody s_read_say) (defScope s_read_say) .none kV9 dc9 pm9 an9 cd9 ct9), sl9⟩) (c9 : PySem.W.codeIn K cd9 "read_say" = true) (k9 : PySem.W.keepIn K (.ref f9) = true)
    (a10 : PySem.W.nsIn K mainGlobals "read_ask" = some (some (.ref f10))) (l10 : K.lookup f10 = some ⟨oc10, od10, .func (PySem.W.fnOf "read_ask" "read_ask" (defArgs s_read_ask) (defBody s_read_ask) (defScope s_read_ask) .none kV10 dc10 pm10 an10 cd10 ct10), sl10⟩) (c10 : PySem.W.codeIn K cd10 "read_ask" = true) (k10 : PySem.W.keepIn K (.ref f10) = true)
    (a11 : PySem.W.nsIn K mainGlobals "has_when" = some (some (.ref f11))) (l11 : K.lookup f11 = some ⟨oc11, od11, .func (PySem.W.fnOf "has_when" "has_when" (defArgs s_has_when) (defBody s_has_when) (defScope s_has_when) .none kV11 dc11 pm11 an11 cd11 ct11), sl11⟩) (c11 : PySem.W.codeIn K cd11 "has_when" = true) (k11 : PySem.W.keepIn K (.ref f11) = true)
    (a12 : PySem.W.nsIn K mainGlobals "read_sum" = some (some (.ref f12))) (l12 : K.lookup f12 = some ⟨oc12, od12, .func (PySem.W.fnOf "read_sum" "read_sum" (defArgs s_read_sum) (defBody s_read_sum) (defScope s_read_sum) .none kV12 dc12 pm12 an12 cd12 ct12), sl12⟩) (c12 : PySem.W.codeIn K cd12 "read_sum" = true) (k12 : PySem.W.keepIn K (.ref f12) = true)
    (a13 : PySem.W.nsIn K mainGlobals "read_sign" = some (some (.ref f13))) (l13 : K.lookup f13 = some ⟨oc13, od13, .func (PySem.W.fnOf "read_sign" "read_sign" (defArgs s_read_sign) (defBody s_read_sign) (defScope s_read_sign) .none kV13 dc13 pm13 an13 cd13 ct13), sl13⟩) (c13 : PySem.W.codeIn K cd13 "read_sign" = true) (k13 : PySem.W.keepIn K (.ref f13) = true)
    (a14 : PySem.W.nsIn K mainGlobals "read_thing" = some (some (.ref f14))) (l14 : K.lookup f14 = some ⟨oc14, od14, .func (PySem.W.fnOf "read_thing" "read_thing" (defArgs s_read_thing) (defBody s_read_thing) (defScope s_read_thing) .none kV14 dc14 pm14 an14 cd14 ct14), sl14⟩) (c14 : PySem.W.codeIn K cd14 "read_thing" = true) (k14 : PySem.W.keepIn K (.ref f14) = true)
    (a15 : PySem.W.nsIn K mainGlobals "read_only_name" = some (some (.ref f15))) (l15 : K.lookup f15 = some ⟨oc15, od15, .func (PySem.W.fnOf "read_only_name" "read_only_name" (defArgs s_read_only_name) (defBody s_read_only_name) (defScope s_read_only_name) .none kV15 dc15 pm15 an15 cd15 ct15), sl15⟩) (c15 : PySem.W.codeIn K cd15 "read_only_name" = true) (k15 : PySem.W.keepIn K (.ref f15) = true)
    (a16 : PySem.W.nsIn K mainGlobals "read_name" = some (some (.ref f16))) (l16 : K.lookup f16 = some ⟨oc16, od16, .func (PySem.W.fnOf "read_name" "read_name" (defArgs s_read_name) (defBody s_read_name) (defScope s_read_name) .none kV16 dc16 pm16 an16 cd16 ct16), sl16⟩) (c16 : PySem.W.codeIn K cd16 "read_name" = true) (k16 : PySem.W.keepIn K (.ref f16) = true)
    (a17 : PySem.W.nsIn K mainGlobals "is_name" = some (some (.ref f17))) (l17 : K.lookup f17 = some ⟨oc17, od17, .func (PySem.W.fnOf "is_name" "is_name" (defArgs s_is_name) (defBody s_is_name) (defScope s_is_name) .none kV17 dc17 pm17 an17 cd17 ct17), sl17⟩) (c17 : PySem.W.codeIn K cd17 "is_name" = true) (k17 : PySem.W.keepIn K (.ref f17) = true)
    (a18 : PySem.W.nsIn K mainGlobals "is_number" = some (some (.ref f18))) (l18 : K.lookup f18 = some ⟨oc18, od18, .func (PySem.W.fnOf "is_number" "is_number" (defArgs s_is_number) (defBody s_is_number) (defScope s_is_number) .none kV18 dc18 pm18 an18 cd18 ct18), sl18⟩) (c18 : PySem.W.codeIn K cd18 "is_number" = true) (k18 : PySem.W.keepIn K (.ref f18) = true)
    (a19 : PySem.W.nsIn K mainGlobals "_law_stream" = some (some (.ref f19))) (l19 : K.lookup f19 = some ⟨oc19, od19, .func (PySem.W.fnOf "_law_stream" "_law_stream" (defArgs s_law_stream) (defBody s_law_stream) (defScope s_law_stream) .none kV19 dc19 pm19 an19 cd19 ct19), sl19⟩) (c19 : PySem.W.codeIn K cd19 "_law_stream" = true) (k19 : PySem.W.keepIn K (.ref f19) = true)
    (a20 : PySem.W.nsIn K mainGlobals "_law_word" = some (some (.ref f20))) (l20 : K.lookup f20 = some ⟨oc20, od20, .func (PySem.W.fnOf "_law_word" "_law_word" (defArgs s_law_word) (defBody s_law_word) (defScope s_law_word) .none kV20 dc20 pm20 an20 cd20 ct20), sl20⟩) (c20 : PySem.W.codeIn K cd20 "_law_word" = true) (k20 : PySem.W.keepIn K (.ref f20) = true)
    (a21 : PySem.W.nsIn K mainGlobals "_law_begun" = some (some (.ref f21))) (l21 : K.lookup f21 = some ⟨oc21, od21, .func (PySem.W.fnOf "_law_begun" "_law_begun" (defArgs s_law_begun) (defBody s_law_begun) (defScope s_law_begun) .none kV21 dc21 pm21 an21 cd21 ct21), sl21⟩) (c21 : PySem.W.codeIn K cd21 "_law_begun" = true) (k21 : PySem.W.keepIn K (.ref f21) = true)
    (a22 : PySem.W.nsIn K mainGlobals "_law_words" = some (some (.ref f22))) (l22 : K.lookup f22 = some ⟨oc22, od22, .func (PySem.W.fnOf "_law_words" "_law_words" (defArgs s_law_words) (defBody s_law_words) (defScope s_law_words) .none kV22 dc22 pm22 an22 cd22 ct22), sl22⟩) (c22 : PySem.W.codeIn K cd22 "_law_words" = true) (k22 : PySem.W.keepIn K (.ref f22) = true)
    (a23 : PySem.W.nsIn K mainGlobals "_law_read" = some (some (.ref f23))) (l23 : K.lookup f23 = some ⟨oc23, od23, .func (PySem.W.fnOf "_law_read" "_law_read" (defArgs s_law_read) (defBody s_law_read) (defScope s_law_read) .none kV23 dc23 pm23 an23 cd23 ct23), sl23⟩) (c23 : PySem.W.codeIn K cd23 "_law_read" = true) (k23 : PySem.W.keepIn K (.ref f23) = true)
    (a24 : PySem.W.nsIn K mainGlobals "_law_right" = some (some (.ref f24))) (l24 : K.lookup f24 = some ⟨oc24, od24, .func (PySem.W.fnOf "_law_right" "_law_right" (defArgs s_law_right) (defBody s_law_right) (defScope s_law_right) .none kV24 dc24 pm24 an24 cd24 ct24), sl24⟩) (c24 : PySem.W.codeIn K cd24 "_law_right" = true) (k24 : PySem.W.keepIn K (.ref f24) = true)
    (a25 : PySem.W.nsIn K mainGlobals "law" = some (some (.ref f25))) (l25 : K.lookup f25 = some ⟨oc25, od25, .func (PySem.W.fnOf "law" "law" (defArgs s_law) (defBody s_law) (defScope s_law) .none kV25 dc25 pm25 an25 cd25 ct25), sl25⟩) (c25 : PySem.W.codeIn K cd25 "law" = true) (k25 : PySem.W.keepIn K (.ref f25) = true)
    (z0 : PySem.W.nsIn K mainGlobals "len" = some none)
    (z1 : PySem.W.nsIn K mainGlobals "range" = some none)
    (z2 : PySem.W.nsIn K mainGlobals "str" = some none)
    (z3 : PySem.W.nsIn K mainGlobals "int" = some none)
    (z4 : PySem.W.nsIn K mainGlobals "bool" = some none)
    (z5 : PySem.W.nsIn K mainGlobals "tuple" = some none)
    (z6 : PySem.W.nsIn K mainGlobals "isinstance" = some none)
    (z7 : PySem.W.nsIn K mainGlobals "all" = some none)
    (z8 : PySem.W.nsIn K mainGlobals "list" = some none)
    (gc0 : PySem.W.nsIn K mainGlobals "LETTERS" = some (some (.str "abcdefghijklmnopqrstuvwxyz" tk0)))
    (gc1 : PySem.W.nsIn K mainGlobals "FIGURES" = some (some (.str "0123456789" tk1)))
    (gc2 : PySem.W.nsIn K mainGlobals "MOST_SIGNS" = some (some (.int 8 tk2)))
    (gc3 : PySem.W.nsIn K mainGlobals "MOST_FIGURES" = some (some (.int 60 tk3)))
    (gc4 : PySem.W.nsIn K mainGlobals "MOST_TERMS" = some (some (.int 6 tk4)))
    (gc5 : PySem.W.nsIn K mainGlobals "MOST_PAIRS" = some (some (.int 6 tk5)))
    (x_BundleError : PySem.W.nsIn K mainGlobals "BundleError" = some (some (.ref c_BundleError)))
    (x_NoRow : PySem.W.nsIn K mainGlobals "NoRow" = some (some (.ref c_NoRow)))
    (k_BundleError_cl : PySem.W.clsIn K c_BundleError = some cd_c_BundleError)
    (k_BundleError_ty : PySem.W.typeIn K (.ref c_BundleError) = some (.type "type"))
    (k_BundleError_base : PySem.W.mroIn K c_BundleError (.type "BaseException") = some true)
    (k_BundleError_ga : PySem.W.findIn K (.ref c_BundleError) "__getattribute__" = some (some (.builtin "BaseException.__getattribute__")))
    (k_BundleError_gt : PySem.W.findIn K (.ref c_BundleError) "__getattr__" = some none)
    (k_BundleError_ca : PySem.W.findIn K (.ref c_BundleError) "__class__" = some (some (.builtin "object.__class__")))
    (k_BundleError_gd : PySem.W.specialIn K (.builtin "object.__class__") "__get__" = some (some (.builtin "getset_descriptor.__get__")))
    (k_BundleError_tk : PySem.W.takesIn K (.builtin "object.__class__") = some true)
    (k_BundleError_ob : PySem.W.mroIn K c_BundleError (.type "object") = some true)
    (k_NoRow_cl : PySem.W.clsIn K c_NoRow = some cd_c_NoRow)
    (k_NoRow_ty : PySem.W.typeIn K (.ref c_NoRow) = some (.type "type"))
    (k_NoRow_base : PySem.W.mroIn K c_NoRow (.type "BaseException") = some true)
    (k_NoRow_ga : PySem.W.findIn K (.ref c_NoRow) "__getattribute__" = some (some (.builtin "BaseException.__getattribute__")))
    (k_NoRow_gt : PySem.W.findIn K (.ref c_NoRow) "__getattr__" = some none)
    (k_NoRow_ca : PySem.W.findIn K (.ref c_NoRow) "__class__" = some (some (.builtin "object.__class__")))
    (k_NoRow_gd : PySem.W.specialIn K (.builtin "object.__class__") "__get__" = some (some (.builtin "getset_descriptor.__get__")))
    (k_NoRow_tk : PySem.W.takesIn K (.builtin "object.__class__") = some true)
    (k_NoRow_ob : PySem.W.mroIn K c_NoRow (.type "object") = some true)
    (f_s_NoRow : PySem.W.mroIn K c_NoRow (.ref c_NoRow) = some true)
    (i_NoRow_ini : PySem.W.findIn K (.ref c_NoRow) "__init__" = some (some (.ref fi_NoRow)))
    (i_NoRow_l : K.lookup fi_NoRow = some ⟨ioc_NoRow, iod_NoRow, .func (PySem.W.fnOf "__init__" "NoRow.__init__" (defArgs s_NoRow___init__) (defBody s_NoRow___init__) (defScope s_NoRow___init__) .none ikV_NoRow idc_NoRow ipm_NoRow ian_NoRow icd_NoRow ict_NoRow), isl_NoRow⟩)
    (i_NoRow_c : PySem.W.codeIn K icd_NoRow "NoRow.__init__" = true)
    (i_NoRow_k : PySem.W.keepIn K (.ref fi_NoRow) = true)
    (i_NoRow_f : PySem.W.isFn K (.ref fi_NoRow) = true)
    (i_NoRow_kc : PySem.W.keepIn K (.ref c_NoRow) = true)
    (i_NoRow_o : K.lookup c_NoRow = some (excClassObj jnm_NoRow jq_NoRow c_NoRow jN_NoRow jbs_NoRow (.ref c_BundleError :: [.type "ValueError", .type "Exception", .type "BaseException", .type "object"]) jh_NoRow jsn_NoRow jsub_NoRow jab_NoRow jcol_NoRow jdd_NoRow j0_NoRow j1_NoRow j2_NoRow j3_NoRow j5_NoRow "ValueError.__new__"))
    (i_NoRow_e : PySem.W.excIn K c_BundleError [.type "ValueError", .type "Exception", .type "BaseException", .type "object"] "ValueError.__new__" = true)
    (i_NoRow_ov : OverV cd_c_NoRow.mro)
    (i_NoRow_hd : cd_c_NoRow.hasDict = true)
    (i_NoRow_sa : PySem.W.findIn K (.ref c_NoRow) "__setattr__" = some (some (.builtin "object.__setattr__")))
    (i_NoRow_no : PySem.W.findIn K (.ref c_NoRow) "number" = some none)
    (b_BundleError_ga : PySem.W.specialIn K (.ref c_BundleError) "__getattribute__" = some (some (.builtin "type.__getattribute__")))
    (b_BundleError_rd : PySem.W.readsIn K c_BundleError (.type "type") = true)
    (b_BundleError_fc : PySem.W.findCls K (.ref c_BundleError) (.type "type") "__init__" = some (.val (.builtin "ValueError.__init__"))) :
    ∃ fd : FuncData, (∀ (s : Shared) (v : Value), BindsTo s fd ⟨[v], []⟩ [("_law_script", v)]) ∧ ∀ base : Heap, K.In base → base.Ns mainGlobals mg → FnOk l.prog w K mg base CX0 11 fa fd ["_law_script"] (spLaw K) := by
  have e := hfa.symm.trans (PySem.W.mg_of X G a25)
  cases e
  have T : Txt K mg := ⟨PySem.W.mg_none_of X G z0, PySem.W.mg_none_of X G z1, PySem.W.mg_none_of X G z2, PySem.W.mg_none_of X G z3, PySem.W.mg_none_of X G z4, PySem.W.mg_none_of X G z5, PySem.W.mg_none_of X G z6, PySem.W.mg_none_of X G z7, PySem.W.mg_none_of X G z8, ⟨_, PySem.W.mg_of X G gc0, ⟨_, rfl⟩⟩, ⟨_, PySem.W.mg_of X G gc1, ⟨_, rfl⟩⟩, ⟨_, PySem.W.mg_of X G gc2, ⟨_, rfl⟩⟩, ⟨_, PySem.W.mg_of X G gc3, ⟨_, rfl⟩⟩, ⟨_, PySem.W.mg_of X G gc4, ⟨_, rfl⟩⟩, ⟨_, PySem.W.mg_of X G gc5, ⟨_, rfl⟩⟩, hasDef_mk X G a0 l0 c0 k0, hasDef_mk X G a1 l1 c1 k1, hasDef_mk X G a2 l2 c2 k2, hasDef_mk X G a3 l3 c3 k3, hasDef_mk X G a4 l4 c4 k4, hasDef_mk X G a5 l5 c5 k5, hasDef_mk X G a6 l6 c6 k6, hasDef_mk X G a7 l7 c7 k7, hasDef_mk X G a8 l8 c8 k8, hasDef_mk X G a9 l9 c9 k9, hasDef_mk X G a10 l10 c10 k10, hasDef_mk X G a11 l11 c11 k11, hasDef_mk X G a12 l12 c12 k12, hasDef_mk X G a13 l13 c13 k13, hasDef_mk X G a14 l14 c14 k14, hasDef_mk X G a15 l15 c15 k15, hasDef_mk X G a16 l16 c16 k16, hasDef_mk X G a17 l17 c17 k17, hasDef_mk X G a18 l18 c18 k18, hasDef_mk X G a19 l19 c19 k19, hasDef_mk X G a20 l20 c20 k20, hasDef_mk X G a21 l21 c21 k21, hasDef_mk X G a22 l22 c22 k22, hasDef_mk X G a23 l23 c23 k23, hasDef_mk X G a24 l24 c24 k24, ⟨⟨c_BundleError, c_NoRow⟩, ⟨PySem.W.mg_of X G x_BundleError, PySem.W.mg_of X G x_NoRow, ⟨(by rw [k_BundleError_cl]; rfl), k_BundleError_ty, k_BundleError_base, k_BundleError_ga, k_BundleError_gt, k_BundleError_ca, k_BundleError_gd, k_BundleError_tk, k_BundleError_ob⟩, ⟨(by rw [k_NoRow_cl]; rfl), k_NoRow_ty, k_NoRow_base, k_NoRow_ga, k_NoRow_gt, k_NoRow_ca, k_NoRow_gd, k_NoRow_tk, k_NoRow_ob⟩, f_s_NoRow, ⟨fi_NoRow, _, fun_mk (st := s_NoRow___init__) i_NoRow_l i_NoRow_c i_NoRow_k, ⟨⟨c_BundleError, jN_NoRow, jnm_NoRow, jq_NoRow, jbs_NoRow, jh_NoRow, jsn_NoRow, jsub_NoRow, jab_NoRow, jcol_NoRow, jdd_NoRow, j0_NoRow, j1_NoRow, j2_NoRow, j3_NoRow, j5_NoRow, i_NoRow_o, i_NoRow_e⟩, i_NoRow_ini, i_NoRow_f⟩, i_NoRow_kc⟩, ⟨⟨cd_c_NoRow, k_NoRow_cl, i_NoRow_ov, i_NoRow_hd⟩, i_NoRow_sa, i_NoRow_no⟩, ⟨b_BundleError_ga, b_BundleError_rd, b_BundleError_fc⟩⟩⟩⟩
  exact ⟨_, fun s v => .of_eq rfl, fun base _ _ => law_fn (fun_mk (st := s_law) l25 c25 k25) T⟩
theorem walk {l : PySem.W.OpenLaw} {q : Program} {loose : List Str} {XP : (Str → Option Value) → Heap → Prop} {YP : World → Heap → Prop} {d : DefRec} {K : Params → PySem.W.Frag} (hn : l.most = some 63) (hdf : d.params.defaults = [])
    (hY : ∀ (w : World) (h : Heap), YP w h → (K w.params).In h)
    (F : ∀ (w : World) (mg : Str → Option Value) (fa : Addr) (h : Heap), (K w.params).In h → h.Ns mainGlobals mg → mg d.name = some (.ref fa) →
      ∃ fd : FuncData, (∀ (s : Shared) (u : Value), BindsTo s fd ⟨[u], []⟩ [("_law_script", u)]) ∧ ∀ base : Heap, (K w.params).In base → base.Ns mainGlobals mg → FnOk l.prog w (K w.params) mg base CX0 11 fa fd ["_law_script"] (spLaw (K w.params))) :
    PySem.W.WalkO q loose XP YP l.row.toRowW d [] (fun f vs => PySem.call f vs) :=
  L2.walk_of (n := 63) (k := 11) (x := "_law_script") (CX := fun _ => CX0) (sp := fun w => spLaw (K w.params)) hn (by decide) hdf ⟨rfl, by decide, by decide⟩ hY F (fun _ _ a ns hl _ hS => ⟨a, ns, rfl, hS, hl, fun _ => rfl⟩) fun _ _ _ _ _ z => z
end K05
open PySem PySem.W PyProof.Rows
set_option maxRecDepth 100000 in
set_option maxHeartbeats 0 in
theorem PySem.Challenge.cw_bundlehouse_k05_whole_read_as_written_holds : PySem.Challenge.rw_bundlehouse_k05_whole_read_as_written.Holds := by
  w_on; o_law; k_head; (case hw => w_witness2)
  k_fill
  refine K05.walk (l := PySem.Challenge.rw_bundlehouse_k05_whole_read_as_written) rfl rfl (fun w h Y => PySem.W.kIn_of Y) ?F
  case F =>
    intro w mg fa h KX G hmg
    refine' K05.all_mk KX G hmg ?a0 ?l0 ?c0 ?k0 ?a1 ?l1 ?c1 ?k1 ?a2 ?l2 ?c2 ?k2 ?a3 ?l3 ?c3 ?k3 ?a4 ?l4 ?c4 ?k4 ?a5 ?l5 ?c5 ?k5 ?a6 ?l6 ?c6 ?k6 ?a7 ?l7 ?c7 ?k7 ?a8 ?l8 ?c8 ?k8 ?a9 ?l9 ?c9 ?k9 ?a10 ?l10 ?c10 ?k10 ?a11 ?l11 ?c11 ?k11 ?a12 ?l12 ?c12 ?k12 ?a13 ?l13 ?c13 ?k13 ?a14 ?l14 ?c14 ?k14 ?a15 ?l15 ?c15 ?k15 ?a16 ?l16 ?c16 ?k16 ?a17 ?l17 ?c17 ?k17 ?a18 ?l18 ?c18 ?k18 ?a19 ?l19 ?c19 ?k19 ?a20 ?l20 ?c20 ?k20 ?a21 ?l21 ?c21 ?k21 ?a22 ?l22 ?c22 ?k22 ?a23 ?l23 ?c23 ?k23 ?a24 ?l24 ?c24 ?k24 ?a25 ?l25 ?c25 ?k25 ?z0 ?z1 ?z2 ?z3 ?z4 ?z5 ?z6 ?z7 ?z8 ?gc0 ?gc1 ?gc2 ?gc3 ?gc4 ?gc5 ?x_BundleError ?x_NoRow ?k_BundleError_cl ?k_BundleError_ty ?k_BundleError_base ?k_BundleError_ga ?k_BundleError_gt ?k_BundleError_ca ?k_BundleError_gd ?k_BundleError_tk ?k_BundleError_ob ?k_NoRow_cl ?k_NoRow_ty ?k_NoRow_base ?k_NoRow_ga ?k_NoRow_gt ?k_NoRow_ca ?k_NoRow_gd ?k_NoRow_tk ?k_NoRow_ob ?f_s_NoRow ?i_NoRow_ini ?i_NoRow_l ?i_NoRow_c ?i_NoRow_k ?i_NoRow_f ?i_NoRow_kc ?i_NoRow_o ?i_NoRow_e ?i_NoRow_ov ?i_NoRow_hd ?i_NoRow_sa ?i_NoRow_no ?b_BundleError_ga ?b_BundleError_rd ?b_BundleError_fc
    (case a0 => k_is); (case l0 => k_is); (case c0 => k_is); (case k0 => k_is)
    (case a1 => k_is); (case l1 => k_is); (case c1 => k_is); (case k1 => k_is)
    (case a2 => k_is); (case l2 => k_is); (case c2 => k_is); (case k2 => k_is)
    (case a3 => k_is); (case l3 => k_is); (case c3 => k_is); (case k3 => k_is)
    (case a4 => k_is); (case l4 => k_is); (case c4 => k_is); (case k4 => k_is)
    (case a5 => k_is); (case l5 => k_is); (case c5 => k_is); (case k5 => k_is)
    (case a6 => k_is); (case l6 => k_is); (case c6 => k_is); (case k6 => k_is)
    (case a7 => k_is); (case l7 => k_is); (case c7 => k_is); (case k7 => k_is)
    (case a8 => k_is); (case l8 => k_is); (case c8 => k_is); (case k8 => k_is)
    (case a9 => k_is); (case l9 => k_is); (case c9 => k_is); (case k9 => k_is)
    (case a10 => k_is); (case l10 => k_is); (case c10 => k_is); (case k10 => k_is)
    (case a11 => k_is); (case l11 => k_is); (case c11 => k_is); (case k11 => k_is)
    (case a12 => k_is); (case l12 => k_is); (case c12 => k_is); (case k12 => k_is)
    (case a13 => k_is); (case l13 => k_is); (case c13 => k_is); (case k13 => k_is)
    (case a14 => k_is); (case l14 => k_is); (case c14 => k_is); (case k14 => k_is)
    (case a15 => k_is); (case l15 => k_is); (case c15 => k_is); (case k15 => k_is)
    (case a16 => k_is); (case l16 => k_is); (case c16 => k_is); (case k16 => k_is)
    (case a17 => k_is); (case l17 => k_is); (case c17 => k_is); (case k17 => k_is)
    (case a18 => k_is); (case l18 => k_is); (case c18 => k_is); (case k18 => k_is)
    (case a19 => k_is); (case l19 => k_is); (case c19 => k_is); (case k19 => k_is)
    (case a20 => k_is); (case l20 => k_is); (case c20 => k_is); (case k20 => k_is)
    (case a21 => k_is); (case l21 => k_is); (case c21 => k_is); (case k21 => k_is)
    (case a22 => k_is); (case l22 => k_is); (case c22 => k_is); (case k22 => k_is)
    (case a23 => k_is); (case l23 => k_is); (case c23 => k_is); (case k23 => k_is)
    (case a24 => k_is); (case l24 => k_is); (case c24 => k_is); (case k24 => k_is)
    (case a25 => k_is); (case l25 => k_is); (case c25 => k_is); (case k25 => k_is)
    (case z0 => k_is); (case z1 => k_is); (case z2 => k_is); (case z3 => k_is); (case z4 => k_is); (case z5 => k_is); (case z6 => k_is); (case z7 => k_is); (case z8 => k_is)
    (case gc0 => k_is); (case gc1 => k_is); (case gc2 => k_is); (case gc3 => k_is); (case gc4 => k_is); (case gc5 => k_is)
    (case x_BundleError => k_is)
    (case x_NoRow => k_is)
    (case k_BundleError_cl => k_is)
    (case k_BundleError_ty => k_is)
    (case k_BundleError_base => k_is)
    (case k_BundleError_ga => k_is)
    (case k_BundleError_gt => k_is)
    (case k_BundleError_ca => k_is)
    (case k_BundleError_gd => k_is)
    (case k_BundleError_tk => k_is)
    (case k_BundleError_ob => k_is)
    (case k_NoRow_cl => k_is)
    (case k_NoRow_ty => k_is)
    (case k_NoRow_base => k_is)
    (case k_NoRow_ga => k_is)
    (case k_NoRow_gt => k_is)
    (case k_NoRow_ca => k_is)
    (case k_NoRow_gd => k_is)
    (case k_NoRow_tk => k_is)
    (case k_NoRow_ob => k_is)
    (case f_s_NoRow => k_is)
    (case i_NoRow_ini => k_is)
    (case i_NoRow_l => k_is)
    (case i_NoRow_c => k_is)
    (case i_NoRow_k => k_is)
    (case i_NoRow_f => k_is)
    (case i_NoRow_kc => k_is)
    (case i_NoRow_o => k_is)
    (case i_NoRow_e => k_exc)
    (case i_NoRow_ov => exact .own (.own .base))
    (case i_NoRow_hd => rfl)
    (case i_NoRow_sa => k_is)
    (case i_NoRow_no => k_is)
    (case b_BundleError_ga => k_is)
    (case b_BundleError_rd => k_is)
    (case b_BundleError_fc => k_is)