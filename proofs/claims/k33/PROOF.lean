import PyProof.Rows.All
import Wide.All
import OpenK.AllK
import Wide.FinOn
import Lean
import PyProof.EqAt
import PyProof.EqKinds
import PyProof.TupleCall
import PySem.Challenge.RW_rollcall_k33_guests
set_option Elab.async false
set_option linter.all false
set_option maxRecDepth 100000
namespace L2
open PySem PySem.Spec PyProof.Rows

noncomputable abbrev Key := Sum Int Str
noncomputable def keyIs : Key → Value → Bool
  | .inl k, v => Value.isInt k v
  | .inr x, v => Value.isStrOf x v
noncomputable def keyH (w : World) : Key → Int
  | .inl k => hashInt k
  | .inr x => hashStr w x
theorem keyIs_shape : ∀ {k : Key} {v : Value}, keyIs k v = true → (∃ i t, k = Sum.inl i ∧ v = Value.int i t) ∨ (∃ x t, k = Sum.inr x ∧ v = Value.str x t)
  | .inl i, v, h => by
    obtain ⟨t, e⟩ := Value.isInt_shape (k := i) (v := v) h
    exact .inl ⟨i, t, rfl, e⟩
  | .inr x, v, h => by
    obtain ⟨t, e⟩ := Value.isStrOf_shape (x := x) (v := v) h
    exact .inr ⟨x, t, rfl, e⟩
theorem keyIs_int (i : Int) (t : Tok) : keyIs (.inl i) (.int i t) = true := by simp [keyIs, Value.isInt]
theorem keyIs_str (x : Str) (t : Tok) : keyIs (.inr x) (.str x t) = true := by simp [keyIs, Value.isStrOf]
theorem key_ll (a b : Int) : decide ((Sum.inl a : Key) = Sum.inl b) = (a == b) := by
  by_cases e : a = b
  · subst e; simp
  · have h : ¬ (Sum.inl a : Key) = Sum.inl b := fun q => e (Sum.inl.inj q)
    rw [decide_eq_false h]
    exact (beq_eq_false_iff_ne.mpr e).symm
theorem key_rr (a b : Str) : decide ((Sum.inr a : Key) = Sum.inr b) = decide (a = b) := by
  by_cases e : a = b
  · subst e; simp
  · have h : ¬ (Sum.inr a : Key) = Sum.inr b := fun q => e (Sum.inr.inj q)
    rw [decide_eq_false h, decide_eq_false e]
theorem key_lr (a : Int) (b : Str) : decide ((Sum.inl a : Key) = Sum.inr b) = false := decide_eq_false (fun q => nomatch q)
theorem key_rl (a : Str) (b : Int) : decide ((Sum.inr a : Key) = Sum.inl b) = false := decide_eq_false (fun q => nomatch q)

noncomputable def mixKind (prog : Program) (w : World) : PySem.KeyKind prog w Key where
  is := keyIs
  hash := keyH w
  inj := fun v a b ha hb => by
    rcases keyIs_shape ha with ⟨i, t, rfl, rfl⟩ | ⟨x, t, rfl, rfl⟩
    · rcases keyIs_shape hb with ⟨j, u, rfl, e⟩ | ⟨y, u, rfl, e⟩
      · injection e with e1 _; rw [e1]
      · exact nomatch e
    · rcases keyIs_shape hb with ⟨j, u, rfl, e⟩ | ⟨y, u, rfl, e⟩
      · exact nomatch e
      · injection e with e1 _; rw [e1]
  byValue := fun k v h => by
    rcases keyIs_shape h with ⟨i, t, rfl, rfl⟩ | ⟨x, t, rfl, rfl⟩ <;> rfl
  pyHash := fun hv h => by
    rcases keyIs_shape hv with ⟨i, t, rfl, rfl⟩ | ⟨x, t, rfl, rfl⟩
    · exact wpAny_pyHash_int h
    · exact wpAny_pyHash_str h
  eqBool := fun hu hv h => by
    rcases keyIs_shape hu with ⟨i, t, rfl, rfl⟩ | ⟨x, t, rfl, rfl⟩
    · rcases keyIs_shape hv with ⟨j, u, rfl, rfl⟩ | ⟨y, u, rfl, rfl⟩
      · rw [key_ll] at h; exact wpAny_eqBool_int h
      · rw [key_lr] at h; exact SeqAt.EqAt.int_str i t y u _ _ _ _ h
    · rcases keyIs_shape hv with ⟨j, u, rfl, rfl⟩ | ⟨y, u, rfl, rfl⟩
      · rw [key_rl] at h; exact SeqAt.EqAt.str_int x t j u _ _ _ _ h
      · rw [key_rr] at h; exact wpAny_eqBool_str h
  «strs» := fun k x t v h => by
    rcases keyIs_shape h with ⟨i, u, rfl, e⟩ | ⟨y, u, rfl, e⟩
    · exact nomatch e
    · injection e with e1 _
      subst e1
      cases v <;> rfl

theorem mixKind_int (prog : Program) (w : World) (i : Int) (t : Tok) : (mixKind prog w).is (.inl i) (.int i t) = true := keyIs_int i t
theorem mixKind_str (prog : Program) (w : World) (x : Str) (t : Tok) : (mixKind prog w).is (.inr x) (.str x t) = true := keyIs_str x t
end L2

namespace L2
open PySem PySem.Spec PyProof.Rows

inductive V where
  | non | bl (b : Bool) | int (i : Int) | str (x : Str) | byt (b : Array UInt8) | flt (b : UInt64) | ref (a : Addr) | ty (n : String)
  deriving DecidableEq

noncomputable def RelV : V → Value → Prop
  | .non, u => u = Value.none
  | .bl b, u => u = Value.bool b
  | .int i, u => ∃ t, u = Value.int i t
  | .str x, u => ∃ t, u = Value.str x t
  | .byt b, u => ∃ t, u = Value.bytes b t
  | .flt b, u => ∃ t, u = Value.float b t
  | .ref a, u => u = Value.ref a
  | .ty n, u => u = Value.type n

noncomputable abbrev Vals : List V → List Value → Prop := Paired RelV
theorem Vals.length {xs : List V} {us : List Value} (r : Vals xs us) : xs.length = us.length := Paired.length r
theorem Vals.get : ∀ {xs : List V} {us : List Value} {i : Nat} {x : V}, Vals xs us → xs[i]? = some x → ∃ u, us[i]? = some u ∧ RelV x u
  | _, _, _, _, .nil, e => by simp at e
  | _, _, 0, _, .cons r _, e => by simp at e; subst e; exact ⟨_, rfl, r⟩
  | _, _, i + 1, x, .cons _ t, e => by
    obtain ⟨u, h1, h2⟩ := Vals.get (i := i) (x := x) t (by simpa using e)
    exact ⟨u, by simpa using h1, h2⟩
theorem Vals.append : ∀ {xs ys : List V} {us ws : List Value}, Vals xs us → Vals ys ws → Vals (xs ++ ys) (us ++ ws)
  | _, _, _, _, .nil, s => s
  | _, _, _, _, .cons r t, s => .cons r (Vals.append t s)
theorem Vals.take : ∀ {xs : List V} {us : List Value} (n : Nat), Vals xs us → Vals (xs.take n) (us.take n)
  | _, _, 0, _ => .nil
  | _, _, _ + 1, .nil => .nil
  | _, _, n + 1, .cons r t => .cons r (Vals.take n t)
theorem Vals.drop : ∀ {xs : List V} {us : List Value} (n : Nat), Vals xs us → Vals (xs.drop n) (us.drop n)
  | _, _, 0, r => r
  | _, _, _ + 1, .nil => .nil
  | _, _, n + 1, .cons _ t => Vals.drop n t
noncomputable def RelO : Option V → Option Value → Prop
  | some v, some u => RelV v u
  | none, none => True
  | _, _ => False
noncomputable def KV {κ : Type} : List (κ × V) → List (κ × Value) → Prop := Paired fun (p : κ × V) (q : κ × Value) => p.1 = q.1 ∧ RelV p.2 q.2

noncomputable def kV : Key → V
  | .inl i => .int i
  | .inr x => .str x

inductive HO where
    | lst (xs : List V)
    | tup (xs : List V)
    | dK (kvs : List (Key × V)) | dT (kvs : List (List Key × V))
    | set (S : Int → Bool) (n : Nat)
    | ins (C dx : Addr) (fs : List (Str × V))
    | own (x : Addr)
    | xd (fs : List (Str × V))
    | met (f x : Addr)
    | rng (lo hi : Int)
    | frz (o : Obj) (u : HO)
    | tbl (ps : Array Value)
    | ext (φ : Heap → Prop)

noncomputable abbrev Hp := Addr → Option HO
noncomputable def upd (H : Hp) (a : Addr) (o : HO) : Hp := fun b => if b = a then some o else H b
theorem upd_same {H : Hp} {a : Addr} {o : HO} : upd H a o a = some o := by unfold upd; rw [if_pos rfl]
theorem upd_ne {H : Hp} {a b : Addr} {o : HO} (h : b ≠ a) : upd H a o b = H b := by unfold upd; rw [if_neg h]
theorem ne_of {H : Hp} {a b : Addr} {o u : HO} (h : H a = some o) (h' : H b = some u) (d : o ≠ u) : a ≠ b := by
  intro e; subst e; rw [h] at h'; exact d (Option.some.inj h')
theorem ne_of_none {H : Hp} {a b : Addr} {o : HO} (h : H a = some o) (h' : H b = none) : a ≠ b := by
  intro e; subst e; rw [h] at h'; cases h'

noncomputable def TupN (h : Heap) (a : Addr) (its : Array Value) : Prop := IsTup h a its ∧ ∃ o, h.get? a = some o ∧ o.dict = none
theorem TupN.new (h : Heap) (its : Array Value) : TupN (h.push { cls := .type "tuple", data := .seq its }) h.objs.size its := ⟨IsTup.new _ _, _, Heap.get?_push_size _ rfl, rfl⟩
section
variable (P : Program) (w : World)
noncomputable def ObjOk (H : Hp) (h : Heap) (a : Addr) : HO → Prop
  | .lst xs => xs.length ≤ sizeLine ∧ ∃ (its : List Value) (n : Nat), Vals xs its ∧ h.get? a = some { cls := .type "list", data := .seq its.toArray n }
  | .tup xs => xs.length ≤ sizeLine ∧ ∃ its : List Value, Vals xs its ∧ TupN h a its.toArray
  | .dK kvs => kvs.length ≤ sizeLine ∧ (a == sysModules) = false ∧ ∃ vs, KV kvs vs ∧ h.DictOf (mixKind P w) a vs
  | .dT kvs => kvs.length ≤ sizeLine ∧ (a == sysModules) = false ∧ ∃ xs : List (List Key × Addr × Value),
      Paired (fun (p : List Key × V) (q : List Key × Addr × Value) => p.1 = q.1 ∧ H q.2.1 = some (.tup (p.1.map kV)) ∧ RelV p.2 q.2.2) kvs xs ∧
      ∃ o es ep, h.get? a = some o ∧ o.ExactDict ∧ o.data = .dict es ep ∧ es.toList = xs.map (entryOfKey (tupleKind (mixKind P w))) ∧ (xs.map (·.1)).Nodup
  | .set S n => h.SetOf (intKind P w) a S n
  | .ins C dx fs => H dx = some (.own a) ∧ fs.length ≤ 1000 ∧ dx ≠ a ∧ h.get? a = some (PySem.W.instObj C dx) ∧
      ∃ mA, h.Ns1 dx mA ∧ (∀ f, RelO (fs.lookup f) (mA f)) ∧ PySem.Within mA (fs.map (·.1))
  | .own _ => ∃ o, h.get? a = some o
  | .xd fs => ∃ mA, h.Ns1 a mA ∧ ∀ f, RelO (fs.lookup f) (mA f)
  | .rng lo hi => ∃ t u v, h.get? a = some { cls := .type "range", data := .fields #[.int lo t, .int hi u, .int 1 v] }
  | .frz o u => h.get? a = some o ∧ ObjOk H h a u
  | .tbl ps => h.get? a = some { cls := .none, data := .fields ps }
  | .met f x => h.get? a = some (PySem.W.methodObj (.ref f) (.ref x))
  | .ext φ => φ h ∧ (∃ o, h.get? a = some o) ∧ ∀ h1 h2 : Heap, φ h1 → (∀ o, h1.get? a = some o → h2.get? a = some o) → φ h2
noncomputable def HOk (H : Hp) (h : Heap) : Prop := ∀ a o, H a = some o → ObjOk P w H h a o
end

section
variable {P : Program} {w : World} {H H' : Hp} {h h' : Heap} {a : Addr} {o : HO}
theorem ObjOk.lt (x : ObjOk P w H h a o) : a < h.objs.size := by
  cases o with
  | lst xs => obtain ⟨_, _, _, _, e⟩ := x; exact Heap.lt_size e
  | tup xs => obtain ⟨_, _, _, p⟩ := x; exact p.1.lt
  | dK kvs => obtain ⟨_, _, _, _, o, _, _, e, _⟩ := x; exact Heap.lt_size e
  | dT kvs => obtain ⟨_, _, _, _, o, _, _, e, _⟩ := x; exact Heap.lt_size e
  | set S n => obtain ⟨o, _, _, _, e, _⟩ := x; exact Heap.lt_size e
  | ins C dx fs => obtain ⟨_, _, _, e, _⟩ := x; exact Heap.lt_size e
  | own y => obtain ⟨_, e⟩ := x; exact Heap.lt_size e
  | xd fs => obtain ⟨_, ⟨_, _, _, e, _⟩, _⟩ := x; exact Heap.lt_size e
  | rng lo hi => obtain ⟨_, _, _, e⟩ := x; exact Heap.lt_size e
  | frz ob u => obtain ⟨e, _⟩ := x; exact Heap.lt_size e
  | tbl ps => exact Heap.lt_size (show h.get? a = some _ from x)
  | met f y => exact Heap.lt_size (show h.get? a = some _ from x)
  | ext φ => obtain ⟨_, ⟨_, e⟩, _⟩ := x; exact Heap.lt_size e
theorem Paired.mapP {α β : Type} {F G : α → β → Prop} : ∀ {l₁ : List α} {l₂ : List β}, Paired F l₁ l₂ → (∀ a b, F a b → G a b) → Paired G l₁ l₂
  | _, _, .nil, _ => .nil
  | _, _, .cons r t, f => .cons (f _ _ r) (Paired.mapP t f)
theorem ObjOk.stay (x : ObjOk P w H h a o) (k : ∀ b u, (b = a ∨ H b = some (.own a)) → h.get? b = some u → h'.get? b = some u)
    (ho : ∀ b, H b = some (.own a) → H' b = some (.own a)) (ht : ∀ b xs, H b = some (.tup xs) → H' b = some (.tup xs)) : ObjOk P w H' h' a o := by
  induction o with
  | lst xs => obtain ⟨z, its, n, r, e⟩ := x; exact ⟨z, its, n, r, k _ _ (.inl rfl) e⟩
  | tup xs => obtain ⟨z, its, r, ⟨ob, e, c⟩, o2, e2, c2⟩ := x; exact ⟨z, its, r, ⟨ob, k _ _ (.inl rfl) e, c⟩, o2, k _ _ (.inl rfl) e2, c2⟩
  | dK kvs => obtain ⟨z, y, vs, r, ob, es, ep, e, c⟩ := x; exact ⟨z, y, vs, r, ob, es, ep, k _ _ (.inl rfl) e, c⟩
  | dT kvs =>
    obtain ⟨z, y, xs, r, ob, es, ep, e, c⟩ := x
    exact ⟨z, y, xs, Paired.mapP r fun p q z => ⟨z.1, ht _ _ z.2.1, z.2.2⟩, ob, es, ep, k _ _ (.inl rfl) e, c⟩
  | set S n => obtain ⟨ob, es, ep, t, e, c⟩ := x; exact ⟨ob, es, ep, t, k _ _ (.inl rfl) e, c⟩
  | ins C dx fs =>
    obtain ⟨d, z, ne, e, mA, ⟨od, es, ep, e2, c⟩, r⟩ := x
    exact ⟨ho _ d, z, ne, k _ _ (.inl rfl) e, mA, ⟨od, es, ep, k _ _ (.inr d) e2, c⟩, r⟩
  | own y => obtain ⟨ob, e⟩ := x; exact ⟨ob, k _ _ (.inl rfl) e⟩
  | xd fs => obtain ⟨mA, ⟨od, es, ep, e, c⟩, r⟩ := x; exact ⟨mA, ⟨od, es, ep, k _ _ (.inl rfl) e, c⟩, r⟩
  | rng lo hi => obtain ⟨t, u, v, e⟩ := x; exact ⟨t, u, v, k _ _ (.inl rfl) e⟩
  | frz ob u ih => obtain ⟨e, q⟩ := x; exact ⟨k _ _ (.inl rfl) e, ih q⟩
  | tbl ps =>
    have e : h.get? a = some { cls := .none, data := .fields ps } := x
    show h'.get? a = some { cls := .none, data := .fields ps }
    exact k a _ (.inl rfl) e
  | met f y =>
    have e : h.get? a = some (PySem.W.methodObj (.ref f) (.ref y)) := x
    show h'.get? a = some (PySem.W.methodObj (.ref f) (.ref y))
    exact k a _ (.inl rfl) e
  | ext φ => obtain ⟨p, ⟨o, e⟩, st⟩ := x; exact ⟨st _ _ p fun o q => k _ _ (.inl rfl) q, ⟨o, k _ _ (.inl rfl) e⟩, st⟩
theorem HOk.lt (x : HOk P w H h) (e : H a = some o) : a < h.objs.size := (x a o e).lt
theorem HOk.fresh (x : HOk P w H h) (e : h.objs.size ≤ a) : H a = none := by
  cases q : H a with
  | none => rfl
  | some u => exact absurd (Nat.lt_of_lt_of_le (x.lt q) e) (Nat.lt_irrefl _)
theorem HOk.kept (x : HOk P w H h) (k : ∀ b u, h.get? b = some u → h'.get? b = some u) : HOk P w H h' := fun a o e =>
  (x a o e).stay (fun b u _ q => k b u q) (fun _ q => q) fun _ _ q => q
theorem HOk.laid (x : HOk P w H h) (k : ∀ b u, h.get? b = some u → h'.get? b = some u) (hp : h.objs.size ≤ a) (new : ObjOk P w (upd H a o) h' a o) : HOk P w (upd H a o) h' := fun b u e => by
  have hn := x.fresh hp
  by_cases hb : b = a
  · subst hb; rw [upd_same] at e; cases e; exact new
  · rw [upd_ne hb] at e
    exact (x b u e).stay (fun c v _ q => k c v q) (fun c q => by rw [upd_ne (ne_of_none q hn)]; exact q) fun c xs q => by rw [upd_ne (ne_of_none q hn)]; exact q
end

noncomputable def Rd (H : Hp) (a : Addr) (u : HO) : Prop := H a = some u ∨ ∃ o, H a = some (.frz o u)
theorem Rd.ok {P : Program} {w : World} {H : Hp} {h : Heap} {a : Addr} {u : HO} (r : Rd H a u) (x : HOk P w H h) : ObjOk P w H h a u := by
  rcases r with r | ⟨o, r⟩
  · exact x a u r
  · obtain ⟨_, q⟩ := x a _ r
    exact q
noncomputable def Mut : Option HO → Prop
  | some (.lst _) => True
  | some (.dK _) => True
  | some (.dT _) => True
  | some (.set _ _) => True
  | some (.ins _ _ _) => True
  | some (.ext _) => True
  | _ => False
section
variable {P : Program} {w : World} {H : Hp} {h h' : Heap} {x e : Addr} {o' : HO}
theorem HOk.write (ok : HOk P w H h) (mu : Mut (H x)) (he : e = x ∨ H e = some (.own x)) (k : ∀ b u, b ≠ e → h.get? b = some u → h'.get? b = some u) (heo : ∃ u, h'.get? e = some u)
    (new : ObjOk P w (upd H x o') h' x o') : HOk P w (upd H x o') h' := fun b u q => by
  have nown : ∀ c y, H c = some (.own y) → c ≠ x := fun c y r z => by subst z; rw [r] at mu; exact mu
  have ntup : ∀ c xs, H c = some (.tup xs) → c ≠ x := fun c xs r z => by subst z; rw [r] at mu; exact mu
  by_cases hb : b = x
  · subst hb; rw [upd_same] at q; cases q; exact new
  · rw [upd_ne hb] at q
    by_cases hbe : b = e
    · have q' : H b = some (.own x) := by
        rcases he with z | z
        · exact absurd (hbe.trans z) hb
        · rw [hbe]; exact z
      rw [q] at q'; cases q'
      obtain ⟨v, hv⟩ := heo
      exact ⟨v, by rw [hbe]; exact hv⟩
    · refine (ok b u q).stay (fun c v hc r => k c v ?_ r) (fun c r => by rw [upd_ne (nown c b r)]; exact r) fun c xs r => by rw [upd_ne (ntup c xs r)]; exact r
      rcases hc with rfl | hc
      · exact hbe
      · rintro rfl
        rcases he with z | z
        · exact nown c b hc z
        · rw [hc] at z; cases z; exact hb rfl
end

set_option genInjectivity false in
set_option genSizeOf false in
structure Un (fs ex : List Addr) (H H' : Hp) (h h' : Heap) : Prop where
  keep : ∀ b o, h.get? b = some o → H b = none → b ∉ fs → b ∉ ex → h'.get? b = some o
  slot : ∀ b o, h.get? b = some o → H b = none → b ∈ fs → b ∉ ex → ∃ sl, h'.get? b = some { o with slots := sl }
  free : ∀ b o, h.get? b = some o → H b = none → b ∉ ex → H' b = none
  there : ∀ b o, h.get? b = some o → b ∉ ex → ∃ o', h'.get? b = some o'
  tups : ∀ b xs, H b = some (.tup xs) → H' b = some (.tup xs)
  frzs : ∀ b o u, H b = some (.frz o u) → H' b = some (.frz o u)
  tbls : ∀ b ps, H b = some (.tbl ps) → ∃ more, H' b = some (.tbl (ps ++ more))
section
variable {fs fs' ex ex' : List Addr} {H H1 H2 : Hp} {h h1 h2 h' : Heap} {a x e : Addr} {o : HO}
theorem Un.any (u : Un fs ex H H1 h h1) {b : Addr} {ob : Obj} (q : h.get? b = some ob) (n : H b = none) (hx : b ∉ ex) : ∃ sl, h1.get? b = some { ob with slots := sl } := by
  by_cases hb : b ∈ fs
  · exact u.slot b ob q n hb hx
  · exact ⟨ob.slots, u.keep b ob q n hb hx⟩
theorem Un.kept (k : ∀ b u, h.get? b = some u → h'.get? b = some u) : Un fs ex H H h h' :=
  ⟨fun b ob q _ _ _ => k b ob q, fun b ob q _ _ _ => ⟨ob.slots, k b ob q⟩, fun _ _ _ n _ => n, fun b ob q _ => ⟨ob, k b ob q⟩, fun _ _ q => q, fun _ _ _ q => q, fun _ ps q => ⟨#[], by rw [q]; simp⟩⟩
theorem Un.refl : Un fs ex H H h h := Un.kept fun _ _ q => q
theorem Un.laid (k : ∀ b u, h.get? b = some u → h'.get? b = some u) (hp : h.objs.size ≤ a) (hn : H a = none) : Un fs ex H (upd H a o) h h' where
  keep := fun b u q _ _ _ => k b u q
  slot := fun b u q _ _ _ => ⟨u.slots, k b u q⟩
  free := fun b u q n _ => by rw [upd_ne (Nat.ne_of_lt (Nat.lt_of_lt_of_le (Heap.lt_size q) hp))]; exact n
  there := fun b u q _ => ⟨u, k b u q⟩
  tups := fun b xs q => by rw [upd_ne (ne_of_none q hn)]; exact q
  frzs := fun b u xs q => by rw [upd_ne (ne_of_none q hn)]; exact q
  tbls := fun b ps q => ⟨#[], by rw [upd_ne (ne_of_none q hn), q]; simp⟩
theorem Un.write (mu : Mut (H x)) (he : e = x ∨ H e = some (.own x)) (k : ∀ b u, b ≠ e → h.get? b = some u → h'.get? b = some u) (heo : ∃ u, h'.get? e = some u) : Un fs ex H (upd H x o) h h' := by
  have hx : ∀ b, H b = none → b ≠ x := fun b n z => by subst z; rw [n] at mu; exact mu
  have hb : ∀ b, H b = none → b ≠ e := fun b n z => by
    subst z
    rcases he with r | r
    · exact hx b n r
    · rw [n] at r; cases r
  have hm : ∀ b u, H b = some u → ¬ Mut (some u) → b ≠ x := fun b u q nm z => by subst z; rw [q] at mu; exact nm mu
  refine ⟨fun b u q n _ _ => k b u (hb b n) q, fun b u q n _ _ => ⟨u.slots, k b u (hb b n) q⟩, fun b u q n _ => by rw [upd_ne (hx b n)]; exact n, fun b u q _ => ?_,
    fun b xs q => by rw [upd_ne (hm b _ q fun z => z)]; exact q, fun b u xs q => by rw [upd_ne (hm b _ q fun z => z)]; exact q, fun b ps q => ⟨#[], by rw [upd_ne (hm b _ q fun z => z), q]; simp⟩⟩
  by_cases hbe : b = e
  · subst hbe; exact heo
  · exact ⟨u, k b u hbe q⟩
end

noncomputable def trk (h : Heap) (H : Hp) : List Addr := (List.range h.objs.size).filter fun a => (H a).isSome
noncomputable def hidT (h : Heap) (H : Hp) : Heap := PySem.W.hideAll h (trk h H)
theorem hidT_size (h : Heap) (H : Hp) : (hidT h H).objs.size = h.objs.size := PySem.W.hideAll_size _ _
theorem hidT_get {h : Heap} {H : Hp} {b : Addr} {o : Obj} (e : h.get? b = some o) (n : H b = none) : (hidT h H).get? b = some o :=
  PySem.W.hideAll_get _ e fun hm => by
    have q : (H b).isSome = true := (List.mem_filter.mp hm).2
    rw [n] at q; simp at q
theorem of_hidT {h : Heap} {H : Hp} {b : Addr} {o : Obj} (e : (hidT h H).get? b = some o) : h.get? b = some o ∧ H b = none := by
  have e' : h.get? b = some o := PySem.W.of_hideAll (trk h H) e
  refine ⟨e', ?_⟩
  cases q : H b with
  | none => rfl
  | some x =>
    have hm : b ∈ trk h H := List.mem_filter.mpr ⟨List.mem_range.mpr (Heap.lt_size e'), by simp [q]⟩
    have z : (hidT h H).get? b = none := PySem.W.hideAll_none (trk h H) hm
    rw [z] at e; cases e

noncomputable def allNews (g h : Heap) (L : Addr) : List (Addr × Obj) := (List.range h.objs.size).filterMap fun a => if a = L ∨ (g.get? a).isSome = true then none else (h.get? a).map fun o => (a, o)
noncomputable def rest (g h : Heap) (L d : Addr) : List (Addr × Obj) := (allNews g h L).filter fun p => decide (p.1 ≠ d)
end L2

namespace L2
open PySem PySem.Spec PyProof.Rows

set_option genInjectivity false in
set_option genSizeOf false in
structure Mod (K : PySem.W.Frag) (mg : Str → Option Value) (base : Heap) : Prop where
  kin : K.In base
  glob : base.Ns mainGlobals mg
  blt : ∃ mb, base.Ns builtinsNs mb ∧ ∀ x : Str, x ≠ "__name__" → mb x = bootBuiltins x
  nolimit : base.NoLimit

set_option genInjectivity false in
set_option genSizeOf false in
structure Cx where
  prog : Program
  w : World
  K : PySem.W.Frag
  mg : Str → Option Value
  base : Heap
  A : Around
  N : List Str
  s₀ : Shared
  H₀ : Hp
  env : Env
  outer : List Env
  stack : List Env
  ex : List Addr
  fn : Str → Bool
  calm : Bool
  pn : List (Addr × Obj)
  xe : Value → Shared → Prop
noncomputable def frs (l : List Env) : List Addr := l.filterMap (·.frame)
noncomputable abbrev Cx.fs (X : Cx) : List Addr := frs X.outer

noncomputable def Vis (sc : Scope) (x : Str) : Prop := sc.names.lookup x = some .local ∨ sc.names.lookup x = some .cell ∨ sc.names.lookup x = some .free
noncomputable def Loc (sc : Scope) (x : Str) : Prop := sc.names.lookup x = some .local ∨ sc.names.lookup x = some .cell
noncomputable def Look (env : Env) (h : Heap) (m : Str → Option Value) (x : Str) (u : Value) : Prop :=
  (env.kindOf x = some .local ∧ m x = some u) ∨ ((env.kindOf x = some .cell ∨ env.kindOf x = some .free) ∧ ∃ c, env.cells.lookup x = some c ∧ h.IsCell c (some u))

set_option genInjectivity false in
set_option genSizeOf false in
structure Cx.Ok (X : Cx) : Prop where
  mod : Mod X.K X.mg X.base
  kind : X.env.scope.kind = .function
  glob : X.env.globals = mainGlobals
  blt : X.env.builtins = builtinsNs
  above : X.s₀.heap.objs.size ≤ X.env.locals
  inj : ∀ x y c, X.env.cells.lookup x = some c → X.env.cells.lookup y = some c → x = y
  has : ∀ x, (X.env.kindOf x = some .cell ∨ X.env.kindOf x = some .free) → ∃ c, X.env.cells.lookup x = some c
  cab : ∀ x c, X.fn x = true → X.env.cells.lookup x = some c → X.s₀.heap.objs.size ≤ c
  hd : X.calm = true → X.A.handled = none
  frames : X.A.frames = some X.stack
  stk : X.stack = X.outer ∨ (X.stack = X.env :: X.outer ∧ X.env.frame = some X.env.locals)
  exf : ∀ b ∈ X.ex, b ≠ X.env.locals ∧ ∀ x c, X.env.cells.lookup x = some c → c ≠ b
  bs : ∀ b o, X.base.get? b = some o → X.s₀.heap.get? b = some o ∧ X.H₀ b = none
  bsz : X.base.objs.size ≤ X.s₀.heap.objs.size
  noex : ∀ b o, X.base.get? b = some o → b ∉ X.ex
  exfs : ∀ b ∈ X.ex, b ∉ X.fs
  funs : X.s₀.heap.FunFrames X.base X.outer
  frf : ∀ b ∈ X.fs, X.H₀ b = none

set_option genInjectivity false in
set_option genSizeOf false in
structure Inv (X : Cx) (pins : List (Addr × Obj)) (σ : List (Option V)) (H : Hp) (s : Shared) : Prop where
  ok : X.Ok
  os : s.os = X.s₀.os
  bare : AllBare s.gens
  base : Un X.fs X.ex X.H₀ H X.s₀.heap s.heap
  loc : ∃ m, s.heap.Ns X.env.locals m ∧ ∀ (i : Nat) (x : Str) (v : V), X.N[i]? = some x → σ[i]? = some (some v) → Vis X.env.scope x → ∃ u, RelV v u ∧ Look X.env s.heap m x u
  cell : ∀ x c, X.env.cells.lookup x = some c → ∃ v, s.heap.IsCell c v
  free : H X.env.locals = none
  freeC : ∀ x c, X.env.cells.lookup x = some c → H c = none
  pin : ∀ p ∈ X.pn ++ pins, s.heap.get? p.1 = some p.2 ∧ H p.1 = none ∧ p.1 ≠ X.env.locals ∧ p.1 ∉ X.fs ∧ ∀ v, p.2.data ≠ .cell v
  hok : HOk X.prog X.w H s.heap
  len : σ.length = X.N.length

section
variable {X : Cx} {pins : List (Addr × Obj)} {σ : List (Option V)} {H H' : Hp} {s : Shared} {h' : Heap}

theorem Cx.Ok.nofr (ok : X.Ok) {b : Addr} {o : Obj} (e : X.base.get? b = some o) : b ∉ X.fs := fun hb => by
  have := (ok.funs.mem hb).1
  rw [e] at this; cases this
theorem Inv.bs (I : Inv X pins σ H s) : ∀ b o, X.base.get? b = some o → s.heap.get? b = some o ∧ H b = none := fun b o e =>
  ⟨I.base.keep b o (I.ok.bs b o e).1 (I.ok.bs b o e).2 (I.ok.nofr e) (I.ok.noex b o e), I.base.free b o (I.ok.bs b o e).1 (I.ok.bs b o e).2 (I.ok.noex b o e)⟩
theorem Inv.bk (I : Inv X pins σ H s) : ∀ b o, X.base.get? b = some o → s.heap.get? b = some o := fun b o e => (I.bs b o e).1
theorem Inv.mod (I : Inv X pins σ H s) : Mod X.K X.mg X.base := I.ok.mod
theorem Inv.kIn (I : Inv X pins σ H s) : X.K.In s.heap := I.ok.mod.kin.keeps I.bk
theorem Inv.fr (I : Inv X pins σ H s) : ∃ m, Fr X.base X.env.locals s.heap m :=
  let ⟨m, hn, _⟩ := I.loc
  ⟨m, hn, I.bk, Nat.le_trans I.ok.bsz I.ok.above⟩
theorem Inv.lt (I : Inv X pins σ H s) : X.env.locals < s.heap.objs.size := let ⟨_, hn, _⟩ := I.loc; hn.lt
theorem Inv.sz (I : Inv X pins σ H s) : X.s₀.heap.objs.size ≤ s.heap.objs.size := Nat.le_trans I.ok.above (Nat.le_of_lt I.lt)
theorem Inv.nofs (I : Inv X pins σ H s) {a : Addr} (h : s.heap.objs.size ≤ a) : a ∉ X.fs := fun hb => by
  obtain ⟨_, o, ho, _⟩ := I.ok.funs.mem hb
  exact absurd (Nat.lt_of_lt_of_le (Heap.lt_size ho) (Nat.le_trans I.sz h)) (Nat.lt_irrefl _)
theorem Inv.cne (I : Inv X pins σ H s) : ∀ x c, X.env.cells.lookup x = some c → c ≠ X.env.locals := fun x c e z => by
  obtain ⟨v, o, ho, hd⟩ := I.cell x c e
  obtain ⟨m, ⟨o', es, ep, ho', hd', _⟩, _⟩ := I.loc
  rw [z, ho'] at ho; cases ho; rw [hd'] at hd; cases hd
theorem Inv.funs (I : Inv X pins σ H s) : s.heap.FunFrames X.base X.outer := by
  have all : ∀ (l : List Env), (∀ b ∈ frs l, b ∈ X.fs) → X.s₀.heap.FunFrames X.base l → s.heap.FunFrames X.base l := by
    intro l
    induction l with
    | nil => intro _ _; trivial
    | cons env r ih =>
      intro hs hl
      obtain ⟨hk, ⟨L, o, hf, hn, ho, hd⟩, hr⟩ := hl
      have hL : L ∈ X.fs := hs L (by unfold frs; rw [List.filterMap_cons, hf]; exact List.mem_cons_self)
      obtain ⟨sl, e⟩ := I.base.slot L o ho (I.ok.frf L hL) hL fun z => I.ok.exfs L z hL
      exact ⟨hk, ⟨L, _, hf, hn, e, hd⟩, ih (fun b hb => hs b (by unfold frs; rw [List.filterMap_cons, hf]; exact List.mem_cons_of_mem _ hb)) hr⟩
  exact all X.outer (fun _ hb => hb) I.ok.funs

theorem Inv.stack (I : Inv X pins σ H s) : s.heap.FunFrames X.base X.stack := by
  rcases I.ok.stk with e | ⟨e, hf⟩
  · rw [e]; exact I.funs
  · rw [e]
    obtain ⟨m, hn, _⟩ := I.loc
    refine .cons (by rw [I.ok.kind]; decide) hf hn ?_ I.funs
    exact Heap.get?_none_of_le (Nat.le_trans I.ok.bsz I.ok.above)
theorem Inv.stkSub (I : Inv X pins σ H s) : ∀ b ∈ frs X.stack, b ∈ X.env.locals :: X.fs := fun b hb => by
  rcases I.ok.stk with e | ⟨e, hf⟩
  · rw [e] at hb; exact List.mem_cons_of_mem _ hb
  · rw [e] at hb
    unfold frs at hb
    rw [List.filterMap_cons, hf] at hb
    exact hb
theorem Inv.stkFree (I : Inv X pins σ H s) : ∀ b ∈ frs X.stack, H b = none := fun b hb => by
  rcases List.mem_cons.mp (I.stkSub b hb) with e | hb
  · rw [e]; exact I.free
  · obtain ⟨_, o, ho, _⟩ := I.ok.funs.mem hb
    exact I.base.free b o ho (I.ok.frf b hb) fun z => I.ok.exfs b z hb

theorem Inv.step {g' : Array GenState} {t' : Nat} {d' : Drawn} {ch : List Addr} (I : Inv X pins σ H s)
    (hch : ∀ b ∈ ch, (b ∈ X.ex ∨ X.s₀.heap.objs.size ≤ b) ∧ b ≠ X.env.locals ∧ (∀ x c, X.env.cells.lookup x = some c → c ≠ b) ∧ ∀ p ∈ X.pn ++ pins, p.1 ≠ b)
    (keep : ∀ b o, b ≠ X.env.locals → b ∉ X.fs → b ∉ ch → s.heap.get? b = some o → H b = none → h'.get? b = some o)
    (slot : ∀ b o, b ≠ X.env.locals → b ∈ X.fs → b ∉ ch → s.heap.get? b = some o → H b = none → ∃ sl, h'.get? b = some { o with slots := sl }) (free : ∀ b o, b ∉ ch → s.heap.get? b = some o → H b = none → H' b = none)
    (there : ∀ b o, b ∉ ch → s.heap.get? b = some o → ∃ o', h'.get? b = some o')
    (tups : ∀ b xs, H b = some (.tup xs) → H' b = some (.tup xs)) (frzs : ∀ b o u, H b = some (.frz o u) → H' b = some (.frz o u)) (tbls : ∀ b ps, H b = some (.tbl ps) → ∃ more, H' b = some (.tbl (ps ++ more)))
    (ns : ∀ m, s.heap.Ns X.env.locals m → h'.Ns X.env.locals m) (hok : HOk X.prog X.w H' h') (hg : AllBare g') :
    Inv X pins σ H' { s with heap := h', gens := g', drawn := d', toks := t' } := by
  have neL : ∀ b o, X.s₀.heap.get? b = some o → b ≠ X.env.locals := fun b o e => Nat.ne_of_lt (Nat.lt_of_lt_of_le (Heap.lt_size e) I.ok.above)
  have neC : ∀ b o, X.s₀.heap.get? b = some o → b ∉ X.ex → b ∉ ch := fun b o e hx hb => by
    rcases (hch b hb).1 with z | z
    · exact hx z
    · exact absurd (Nat.lt_of_lt_of_le (Heap.lt_size e) z) (Nat.lt_irrefl _)
  have cellK : ∀ x c, X.env.cells.lookup x = some c → ∀ v, s.heap.IsCell c v → h'.IsCell c v := fun x c e v ⟨o, ho, hd⟩ => by
    have nch : c ∉ ch := fun z => (hch c z).2.2.1 x c e rfl
    by_cases hc : c ∈ X.fs
    · obtain ⟨sl, q⟩ := slot c o (I.cne x c e) hc nch ho (I.freeC x c e)
      exact ⟨_, q, hd⟩
    · exact ⟨o, keep c o (I.cne x c e) hc nch ho (I.freeC x c e), hd⟩
  refine ⟨I.ok, I.os, hg, ⟨fun b o e n hb hx => ?_, fun b o e n hb hx => ?_, fun b o e n hx => ?_, fun b o e hx => ?_, fun b xs e => tups b xs (I.base.tups b xs e), fun b o xs e => frzs b o xs (I.base.frzs b o xs e), fun b ps e => ?_⟩, ?_, fun x c e => ?_, ?_, fun x c e => ?_, fun p hp => ?_, hok, I.len⟩
  · exact keep b o (neL b o e) hb (neC b o e hx) (I.base.keep b o e n hb hx) (I.base.free b o e n hx)
  · obtain ⟨sl, e1⟩ := I.base.slot b o e n hb hx
    obtain ⟨sl', e2⟩ := slot b _ (neL b o e) hb (neC b o e hx) e1 (I.base.free b o e n hx)
    exact ⟨sl', e2⟩
  · obtain ⟨o', e1⟩ := I.base.there b o e hx
    exact free b o' (neC b o e hx) e1 (I.base.free b o e n hx)
  · obtain ⟨o', e1⟩ := I.base.there b o e hx
    exact there b o' (neC b o e hx) e1
  · obtain ⟨m1, e1⟩ := I.base.tbls b ps e
    obtain ⟨m2, e2⟩ := tbls b _ e1
    exact ⟨m1 ++ m2, by rw [e2, Array.append_assoc]⟩
  · obtain ⟨m, hn, hl⟩ := I.loc
    refine ⟨m, ns m hn, fun i x v e1 e2 e3 => ?_⟩
    obtain ⟨u, r, l⟩ := hl i x v e1 e2 e3
    refine ⟨u, r, ?_⟩
    rcases l with l | ⟨k, c, e, z⟩
    · exact .inl l
    · exact .inr ⟨k, c, e, cellK x c e _ z⟩
  · obtain ⟨v, z⟩ := I.cell x c e
    exact ⟨v, cellK x c e v z⟩
  · obtain ⟨m, ⟨o, _, _, ho, _⟩, _⟩ := I.loc
    exact free _ o (fun z => (hch _ z).2.1 rfl) ho I.free
  · obtain ⟨v, o, ho, hd⟩ := I.cell x c e
    exact free c o (fun z => (hch c z).2.2.1 x c e rfl) ho (I.freeC x c e)
  · obtain ⟨e, n, ne, nf, d⟩ := I.pin p hp
    have nch : p.1 ∉ ch := fun z => (hch p.1 z).2.2.2 p hp rfl
    exact ⟨keep p.1 p.2 ne nf nch e n, free p.1 p.2 nch e n, ne, nf, d⟩
theorem Inv.un {t' : Nat} (I : Inv X pins σ H s) (u : Un X.fs [] H H' s.heap h') (hok : HOk X.prog X.w H' h') : Inv X pins σ H' { s with heap := h', toks := t' } := by
  obtain ⟨m, ⟨o, es, ep, ho, r⟩, _⟩ := id I.loc
  obtain ⟨sl, hL⟩ := u.any ho I.free (by simp)
  exact I.step (g' := s.gens) (d' := s.drawn) (ch := []) (fun _ z => nomatch z) (fun b o _ hb _ e n => u.keep b o e n hb (by simp)) (fun b o _ hb _ e n => u.slot b o e n hb (by simp)) (fun b o _ e n => u.free b o e n (by simp)) (fun b o _ e => u.there b o e (by simp)) u.tups u.frzs u.tbls (fun m' hm => by
    obtain ⟨o', es', ep', ho', r'⟩ := hm
    rw [ho] at ho'; cases ho'
    exact ⟨_, es', ep', hL, r'⟩) hok I.bare
theorem Inv.call {g' : Array GenState} {t' : Nat} {d' : Drawn} {ch : List Addr} (I : Inv X pins σ H s) (u : Un (frs X.stack) ch H H' s.heap h') (hok : HOk X.prog X.w H' h') (hg : AllBare g')
    (hch : ∀ b ∈ ch, (b ∈ X.ex ∨ X.s₀.heap.objs.size ≤ b) ∧ b ≠ X.env.locals ∧ (∀ x c, X.env.cells.lookup x = some c → c ≠ b) ∧ ∀ p ∈ X.pn ++ pins, p.1 ≠ b) :
    Inv X pins σ H' { s with heap := h', gens := g', drawn := d', toks := t' } := by
  obtain ⟨m, ⟨o, es, ep, ho, r⟩, _⟩ := id I.loc
  obtain ⟨sl, hL⟩ := u.any ho I.free fun z => (hch _ z).2.1 rfl
  exact I.step (ch := ch) hch (fun b o hL hb hc e n => u.keep b o e n (fun z => (List.mem_cons.mp (I.stkSub b z)).elim hL hb) hc) (fun b o _ _ hc e n => u.any e n hc) (fun b o hc e n => u.free b o e n hc) (fun b o hc e => u.there b o e hc) u.tups u.frzs u.tbls (fun m' hm => by
    obtain ⟨o', es', ep', ho', r'⟩ := hm
    rw [ho] at ho'; cases ho'
    exact ⟨_, es', ep', hL, r'⟩) hok hg
theorem Inv.turned {t' : Nat} {it : Addr} (I : Inv X pins σ H s) (k : ∀ b o, b ≠ it → s.heap.get? b = some o → h'.get? b = some o) (hn : H it = none) (hL : it ≠ X.env.locals)
    (h1 : it ∈ X.ex ∨ X.s₀.heap.objs.size ≤ it) (h2 : ∀ x c, X.env.cells.lookup x = some c → c ≠ it) (h3 : ∀ p ∈ X.pn ++ pins, p.1 ≠ it) : Inv X pins σ H { s with heap := h', toks := t' } := by
  have nit : ∀ b u, H b = some u → b ≠ it := fun b u e z => by rw [z, hn] at e; cases e
  refine I.step (g' := s.gens) (d' := s.drawn) (ch := [it]) (fun b hb => ?_) (fun b o _ _ hc e _ => k b o (fun z => hc (by simp [z])) e) (fun b o _ _ hc e _ => ⟨o.slots, k b o (fun z => hc (by simp [z])) e⟩) (fun _ _ _ _ n => n)
    (fun b o hc e => ⟨o, k b o (fun z => hc (by simp [z])) e⟩) (fun _ _ e => e) (fun _ _ _ e => e) (fun b ps e => ⟨#[], by rw [e]; simp⟩) (fun m hm => ?_) (fun b u e => ?_) I.bare
  · have e : b = it := by simpa using hb
    subst e
    exact ⟨h1, hL, h2, h3⟩
  · obtain ⟨o, es, ep, ho, r⟩ := hm
    exact ⟨o, es, ep, k _ o (Ne.symm hL) ho, r⟩
  · refine (I.hok b u e).stay (fun c v hc q => k c v ?_ q) (fun _ q => q) fun _ _ q => q
    rcases hc with z | z
    · rw [z]; exact nit b u e
    · exact nit c _ z
theorem Inv.tok (I : Inv X pins σ H s) (t : Nat) : Inv X pins σ H { s with toks := t } := I.un (h' := s.heap) (t' := t) Un.refl I.hok
theorem Inv.kept {t' : Nat} (I : Inv X pins σ H s) (k : ∀ b u, s.heap.get? b = some u → h'.get? b = some u) : Inv X pins σ H { s with heap := h', toks := t' } := I.un (Un.kept k) (I.hok.kept k)
theorem Inv.laid {a : Addr} {o : HO} {t' : Nat} (I : Inv X pins σ H s) (k : ∀ b u, s.heap.get? b = some u → h'.get? b = some u) (hp : s.heap.objs.size ≤ a) (new : ObjOk X.prog X.w (upd H a o) h' a o) :
    Inv X pins σ (upd H a o) { s with heap := h', toks := t' } := I.un (Un.laid k hp (I.hok.fresh hp)) (I.hok.laid k hp new)
theorem Inv.write {x e : Addr} {o : HO} {t' : Nat} (I : Inv X pins σ H s) (mu : Mut (H x)) (he : e = x ∨ H e = some (.own x)) (k : ∀ b u, b ≠ e → s.heap.get? b = some u → h'.get? b = some u) (heo : ∃ u, h'.get? e = some u)
    (new : ObjOk X.prog X.w (upd H x o) h' x o) : Inv X pins σ (upd H x o) { s with heap := h', toks := t' } := I.un (Un.write mu he k heo) (I.hok.write mu he k heo new)
theorem Inv.weak {σ' : List (Option V)} (I : Inv X pins σ H s) (hl : σ'.length = σ.length) (w : ∀ (i : Nat) v, σ'[i]? = some (some v) → σ[i]? = some (some v)) : Inv X pins σ' H s :=
  ⟨I.ok, I.os, I.bare, I.base, let ⟨m, hn, hl'⟩ := I.loc; ⟨m, hn, fun i x v e1 e2 e3 => hl' i x v e1 (w i v e2) e3⟩, I.cell, I.free, I.freeC, I.pin, I.hok, hl.trans I.len⟩
theorem Inv.pins_of {pins' : List (Addr × Obj)} (I : Inv X pins σ H s) (h : ∀ p ∈ pins', s.heap.get? p.1 = some p.2 ∧ H p.1 = none ∧ p.1 ≠ X.env.locals ∧ p.1 ∉ X.fs ∧ ∀ v, p.2.data ≠ .cell v) : Inv X pins' σ H s :=
  ⟨I.ok, I.os, I.bare, I.base, I.loc, I.cell, I.free, I.freeC, fun p hp => (List.mem_append.mp hp).elim (fun z => I.pin p (List.mem_append_left _ z)) (h p), I.hok, I.len⟩

theorem nodup_ix {N : List Str} (hN : N.Nodup) {i j : Nat} {x : Str} (a : N[i]? = some x) (b : N[j]? = some x) : i = j := by
  obtain ⟨h1, e1⟩ := List.getElem?_eq_some_iff.mp a
  obtain ⟨h2, e2⟩ := List.getElem?_eq_some_iff.mp b
  exact (List.getElem_inj hN).mp (e1.trans e2.symm)

theorem store_ok2 {M : Model} {A : Around} {E : Value → Shared → Prop} {i : Nat} {x : Str} {v : V} {u : Value} {Q : Unit → Shared → Prop} (I : Inv X pins σ H s) (hN : X.N.Nodup) (hi : X.N[i]? = some x) (hx : Loc X.env.scope x) (r : RelV v u)
    (h : ∀ s', Inv X pins (σ.set i (some v)) H s' → (∃ a, Heap.SameBut a s.heap s'.heap ∧ (a = X.env.locals ∨ X.env.cells.lookup x = some a)) → Q () s') (hf : X.fn x = true ∨ X.env.scope.names.lookup x = some .local := by first | exact .inl rfl | exact .inr rfl | assumption) : wpAny M A (storeName X.env x u) Q E s := by
  obtain ⟨m, hn, hl⟩ := id I.loc
  have hcls : (X.env.scope.kind == .class || (X.env.scope.kind == .module && X.env.locals != X.env.globals)) = false := by rw [I.ok.kind]; rfl
  have hiσ : i < σ.length := by rw [I.len]; exact (List.getElem?_eq_some_iff.mp hi).1
  have cne := I.cne
  have tracked : ∀ {a : Addr} {h' : Heap}, (∃ o, s.heap.get? a = some o ∧ H a = none) → Heap.SameBut a s.heap h' → HOk X.prog X.w H h' := fun {a h'} ha hs b ob e => by
    obtain ⟨_, _, hfree⟩ := ha
    refine (I.hok b ob e).stay (fun c w' hc q => (hs.2 c ?_).trans q) (fun _ q => q) fun _ _ q => q
    rintro rfl
    rcases hc with rfl | hc
    · rw [hfree] at e; cases e
    · rw [hfree] at hc; cases hc
  rcases hx with hk | hk
  · refine wpAny_storeName_local hk hn (fun h' hn' hs => ?_) hcls
    obtain ⟨oL, _, _, hoL, _⟩ := id hn
    refine h _ ⟨I.ok, I.os, I.bare, ⟨fun b o e n hb hx => ?_, fun b o e n hb hx => ?_, I.base.free, fun b o e hx => ?_, I.base.tups, I.base.frzs, I.base.tbls⟩, ⟨_, hn', fun j y v' e1 e2 e3 => ?_⟩, fun y c e => ?_, I.free, I.freeC, fun p hp => ?_, tracked ⟨oL, hoL, I.free⟩ hs, by simpa using I.len⟩ ⟨_, hs, .inl rfl⟩
    · exact (hs.2 b (Nat.ne_of_lt (Nat.lt_of_lt_of_le (Heap.lt_size e) I.ok.above))).trans (I.base.keep b o e n hb hx)
    · obtain ⟨sl, e1⟩ := I.base.slot b o e n hb hx
      exact ⟨sl, (hs.2 b (Nat.ne_of_lt (Nat.lt_of_lt_of_le (Heap.lt_size e) I.ok.above))).trans e1⟩
    · obtain ⟨o', e1⟩ := I.base.there b o e hx
      exact ⟨o', (hs.2 b (Nat.ne_of_lt (Nat.lt_of_lt_of_le (Heap.lt_size e) I.ok.above))).trans e1⟩
    · by_cases hj : j = i
      · subst hj
        rw [hi] at e1; cases e1
        rw [List.getElem?_set_self hiσ] at e2
        cases e2
        exact ⟨u, r, .inl ⟨hk, by simp⟩⟩
      · rw [List.getElem?_set_ne (Ne.symm hj)] at e2
        obtain ⟨u', r', q⟩ := hl j y v' e1 e2 e3
        refine ⟨u', r', ?_⟩
        rcases q with ⟨k, e⟩ | ⟨k, c, e, z⟩
        · refine .inl ⟨k, ?_⟩
          have : y ≠ x := fun e => hj (nodup_ix hN e1 (e ▸ hi))
          simp [this, e]
        · exact .inr ⟨k, c, e, z.sameBut hs (cne y c e)⟩
    · obtain ⟨w', z⟩ := I.cell y c e
      exact ⟨w', z.sameBut hs (cne y c e)⟩
    · obtain ⟨e, n, ne, nf, d⟩ := I.pin p hp
      exact ⟨(hs.2 p.1 ne).trans e, n, ne, nf, d⟩
  · have hfn : X.fn x = true := by
      rcases hf with z | z
      · exact z
      · rw [z] at hk; cases hk
    obtain ⟨c, hc⟩ := I.ok.has x (.inl hk)
    obtain ⟨w', z⟩ := I.cell x c hc
    refine wpAny_storeName_cell I.ok.kind hk hc z (fun h' hc' hs => ?_)
    obtain ⟨oc, hoc, hocd⟩ := id z
    refine h { s with heap := h' } ⟨I.ok, I.os, I.bare, ⟨fun b o e n hb hx => ?_, fun b o e n hb hx => ?_, I.base.free, fun b o e hx => ?_, I.base.tups, I.base.frzs, I.base.tbls⟩, ⟨m, hn.sameBut hs (Ne.symm (cne x c hc)), fun j y v' e1 e2 e3 => ?_⟩, fun y c' e => ?_, I.free, I.freeC, fun p hp => ?_, tracked ⟨oc, hoc, I.freeC x c hc⟩ hs, by simpa using I.len⟩ ⟨c, hs, .inr hc⟩
    · exact (hs.2 b (Nat.ne_of_lt (Nat.lt_of_lt_of_le (Heap.lt_size e) (I.ok.cab x c hfn hc)))).trans (I.base.keep b o e n hb hx)
    · obtain ⟨sl, e1⟩ := I.base.slot b o e n hb hx
      exact ⟨sl, (hs.2 b (Nat.ne_of_lt (Nat.lt_of_lt_of_le (Heap.lt_size e) (I.ok.cab x c hfn hc)))).trans e1⟩
    · obtain ⟨o', e1⟩ := I.base.there b o e hx
      exact ⟨o', (hs.2 b (Nat.ne_of_lt (Nat.lt_of_lt_of_le (Heap.lt_size e) (I.ok.cab x c hfn hc)))).trans e1⟩
    · by_cases hj : j = i
      · subst hj
        rw [hi] at e1; cases e1
        rw [List.getElem?_set_self hiσ] at e2
        cases e2
        exact ⟨u, r, .inr ⟨.inl hk, c, hc, hc'⟩⟩
      · rw [List.getElem?_set_ne (Ne.symm hj)] at e2
        obtain ⟨u', r', q⟩ := hl j y v' e1 e2 e3
        refine ⟨u', r', ?_⟩
        rcases q with q | ⟨k, c', e, z'⟩
        · exact .inl q
        · refine .inr ⟨k, c', e, z'.sameBut hs ?_⟩
          rintro rfl
          exact hj (nodup_ix hN e1 (I.ok.inj _ _ _ e hc ▸ hi))
    · by_cases hcc : c' = c
      · subst hcc; exact ⟨_, hc'⟩
      · obtain ⟨w2, z2⟩ := I.cell y c' e
        exact ⟨w2, z2.sameBut hs hcc⟩
    · obtain ⟨e, n, ne, nf, d⟩ := I.pin p hp
      refine ⟨(hs.2 p.1 ?_).trans e, n, ne, nf, d⟩
      intro q
      rw [q, hoc] at e
      have q' : oc = p.2 := Option.some.inj e
      exact d w' (by rw [← q']; exact hocd)
theorem store_ok {M : Model} {A : Around} {E : Value → Shared → Prop} {i : Nat} {x : Str} {v : V} {u : Value} {Q : Unit → Shared → Prop} (I : Inv X pins σ H s) (hN : X.N.Nodup) (hi : X.N[i]? = some x) (hx : Loc X.env.scope x) (r : RelV v u)
    (h : ∀ s', Inv X pins (σ.set i (some v)) H s' → Q () s') (hf : X.fn x = true ∨ X.env.scope.names.lookup x = some .local := by first | exact .inl rfl | exact .inr rfl | assumption) : wpAny M A (storeName X.env x u) Q E s :=
  store_ok2 I hN hi hx r (fun s' I' _ => h s' I') hf
theorem Inv.call' {s' : Shared} {ch : List Addr} (I : Inv X pins σ H s) (ho : s'.os = s.os) (u : Un (frs X.stack) ch H H' s.heap s'.heap) (hok : HOk X.prog X.w H' s'.heap) (hg : AllBare s'.gens)
    (hch : ∀ b ∈ ch, (b ∈ X.ex ∨ X.s₀.heap.objs.size ≤ b) ∧ b ≠ X.env.locals ∧ (∀ x c, X.env.cells.lookup x = some c → c ≠ b) ∧ ∀ p ∈ X.pn ++ pins, p.1 ≠ b) : Inv X pins σ H' s' := by
  obtain ⟨h', g', d', t', o'⟩ := s'
  have e : o' = s.os := ho
  subst e
  exact I.call (g' := g') (t' := t') (d' := d') u hok hg hch
end

noncomputable abbrev XK := Value → Option Addr → Hp → Prop
noncomputable abbrev St := List (Option V)
noncomputable abbrev VK := V → Hp → Prop
noncomputable abbrev TE := St → Hp → VK → Prop
noncomputable abbrev TT := St → Hp → (Bool → Hp → Prop) → Prop
noncomputable abbrev TA := St → Hp → (List V → Hp → Prop) → Prop
set_option genInjectivity false in
set_option genSizeOf false in
structure Ends where
  nx : St → Hp → Prop
  rt : VK
  bk : St → Hp → Prop := fun _ _ => False
  ct : St → Hp → Prop := fun _ _ => False
noncomputable abbrev TS := Ends → St → Hp → Prop

noncomputable def EP (X : Cx) (pins : List (Addr × Obj)) (σ : St) (Q : VK) (u : Value) (s' : Shared) : Prop := ∃ v H', Inv X pins σ H' s' ∧ RelV v u ∧ Q v H'
noncomputable def TP (X : Cx) (pins : List (Addr × Obj)) (σ : St) (Q : Bool → Hp → Prop) (b : Bool) (s' : Shared) : Prop := ∃ H', Inv X pins σ H' s' ∧ Q b H'
noncomputable def AP (X : Cx) (pins : List (Addr × Obj)) (σ : St) (Q : List V → Hp → Prop) (us : List Value) (s' : Shared) : Prop := ∃ vs H', Inv X pins σ H' s' ∧ Vals vs us ∧ Q vs H'
noncomputable def SP (X : Cx) (pins : List (Addr × Obj)) (D : Ends) (f : Flow) (s' : Shared) : Prop :=
  match f with
  | .next => ∃ σ' H', Inv X pins σ' H' s' ∧ D.nx σ' H'
  | .brk => ∃ σ' H', Inv X pins σ' H' s' ∧ D.bk σ' H'
  | .cont => ∃ σ' H', Inv X pins σ' H' s' ∧ D.ct σ' H'
  | .ret u => ∃ v σ' H', Inv X pins σ' H' s' ∧ RelV v u ∧ D.rt v H'

noncomputable def PE (X : Cx) (e : Expr) (t : TE) : Prop :=
  ∀ (pins : List (Addr × Obj)) (s : Shared) (σ : St) (H : Hp) (Q : VK), Inv X pins σ H s → t σ H Q → wpAny (model X.prog X.w) X.A (eval e X.env) (EP X pins σ Q) X.xe s
noncomputable def PT (X : Cx) (e : Expr) (t : TT) : Prop :=
  ∀ (pins : List (Addr × Obj)) (s : Shared) (σ : St) (H : Hp) (Q : Bool → Hp → Prop), Inv X pins σ H s → t σ H Q → wpAny (model X.prog X.w) X.A (isTrue e X.env (eval e X.env)) (TP X pins σ Q) X.xe s
noncomputable def PW (X : Cx) (e : Expr) (t : TT) : Prop :=
  ∀ (whole : Sem Value) (pins : List (Addr × Obj)) (s : Shared) (σ : St) (H : Hp) (Q : Bool → Hp → Prop), Inv X pins σ H s → t σ H Q → wpAny (model X.prog X.w) X.A (isTrue e X.env whole) (TP X pins σ Q) X.xe s
theorem PW.pt {X : Cx} {e : Expr} {t : TT} (h : PW X e t) : PT X e t := h _
noncomputable def PA (X : Cx) (es : List Expr) (t : TA) : Prop :=
  ∀ (pos : Pos) (pins : List (Addr × Obj)) (s : Shared) (σ : St) (H : Hp) (Q : List V → Hp → Prop), Inv X pins σ H s → t σ H Q → wpAny (model X.prog X.w) X.A (spliced (backTo pos (starEach es X.env))) (AP X pins σ Q) X.xe s
noncomputable def PS (X : Cx) (st : Stmt) (t : TS) : Prop :=
  ∀ (pins : List (Addr × Obj)) (s : Shared) (σ : St) (H : Hp) (D : Ends), Inv X pins σ H s → t D σ H → wpAny (model X.prog X.w) X.A (exec st X.env) (SP X pins D) X.xe s
noncomputable def PSs (X : Cx) (st : List Stmt) (t : TS) : Prop :=
  ∀ (pins : List (Addr × Obj)) (s : Shared) (σ : St) (H : Hp) (D : Ends), Inv X pins σ H s → t D σ H → wpAny (model X.prog X.w) X.A (execs st X.env) (SP X pins D) X.xe s
theorem thn {α : Type} {t : Sem α} {Q Q' : α → Shared → Prop} {M : Model} {A : Around} {E : Value → Shared → Prop} {s : Shared} (h : wpAny M A t Q E s) (hQ : ∀ a s, Q a s → Q' a s) : wpAny M A t Q' E s := wpAny_mono h hQ fun _ _ x => x
end L2

namespace L2
open PySem PySem.Spec PyProof.Rows
section
variable {X : Cx}

theorem bin {a b : Expr} {ta tb : TE} (ha : PE X a ta) (hb : PE X b tb) {pins : List (Addr × Obj)} {s : Shared} {σ : St} {H : Hp} {R : V → V → Hp → Prop} (I : Inv X pins σ H s) (h : ta σ H fun x H1 => tb σ H1 fun y H2 => R x y H2)
    {α : Type} {Q : α → Shared → Prop} {f : Value → Value → Sem α}
    (hf : ∀ v u s2 x y H2, Inv X pins σ H2 s2 → RelV x v → RelV y u → R x y H2 → wpAny (model X.prog X.w) X.A (f v u) Q X.xe s2) :
    wpAny (model X.prog X.w) X.A (eval a X.env) (fun v s₁ => wpAny (model X.prog X.w) X.A (eval b X.env) (fun u s₂ => wpAny (model X.prog X.w) X.A (f v u) Q X.xe s₂) X.xe s₁) X.xe s := by
  refine thn (ha pins s σ H _ I h) fun v s1 ⟨x, H1, I1, r1, q1⟩ => ?_
  refine thn (hb pins s1 σ H1 _ I1 q1) fun u s2 ⟨y, H2, I2, r2, q2⟩ => ?_
  exact hf v u s2 x y H2 I2 r1 r2 q2

inductive RV (i : Nat) (σ : St) (H : Hp) (Q : VK) : Prop
  | mk (v : V) (e : σ[i]? = some (some v)) (q : Q v H)
noncomputable def tVar (i : Nat) : TE := RV i
inductive RB (x : V) (H : Hp) (Q : Bool → Hp → Prop) : Prop
  | mk (c : Bool) (e : x = .bl c) (q : Q c H)
noncomputable def tC (v : V) : TE := fun _ H Q => Q v H
theorem pe_var {i : Nat} {x : Str} {pos : Pos} (hN : X.N[i]? = some x) (hv : Vis X.env.scope x) (hd : (x == ("__debug__" : Str)) = false := by decide) (hcd : (x == ("__classdict__" : Str)) = false := by decide) : PE X (.Name x pos) (tVar i) := by
  intro pins s σ H Q I h
  obtain ⟨v, e, h⟩ := h
  obtain ⟨m, hn, hl⟩ := I.loc
  obtain ⟨u, r, l⟩ := hl i x v hN e hv
  have fin : EP X pins σ Q u s := ⟨v, H, I, r, h⟩
  rcases l with ⟨hk, hm⟩ | ⟨hk, c, hc, hcell⟩
  · exact wpAny_Name (wpAny_loadName_local I.ok.kind hk hn hm fin) hd
  · rcases hk with hk | hk
    · exact wpAny_Name (wpAny_loadName_cell I.ok.kind hk hc hcell fin) hd
    · exact wpAny_Name (wpAny_loadName_free I.ok.kind hk hc hcell fin hcd) hd
theorem pe_int {i j pos} : PE X (.Constant (.int i) j pos) (tC (.int i)) := fun _ _ _ H _ I h => wpAny_Constant_int ⟨.int i, H, I.tok _, ⟨_, rfl⟩, h⟩
theorem pe_bl {b j pos} : PE X (.Constant (.bool b) j pos) (tC (.bl b)) := fun _ _ _ H _ I h => Constant_bool ⟨.bl b, H, I, rfl, h⟩
theorem pe_non {j pos} : PE X (.Constant .none j pos) (tC .non) := fun _ _ _ H _ I h => Constant_none ⟨.non, H, I, rfl, h⟩
theorem pe_str {x j pos} : PE X (.Constant (.str x) j pos) (tC (.str x)) := fun _ _ _ H _ I h => Calls.Constant_str ⟨.str x, H, I.tok _, ⟨_, rfl⟩, h⟩

noncomputable def Gl (X : Cx) (x : Str) : Prop := X.env.kindOf x = some .globalImplicit
theorem ld_glob {E : Value → Shared → Prop} {pins : List (Addr × Obj)} {s : Shared} {σ : St} {H : Hp} {x : Str} {u : Value} {pos : Pos} {Q : Value → Shared → Prop} (I : Inv X pins σ H s) (hg : Gl X x) (hm : X.mg x = some u) (h : Q u s)
    (hd : (x == ("__debug__" : Str)) = false := by decide) : wpAny (model X.prog X.w) X.A (eval (.Name x pos) X.env) Q E s :=
  Calls.Name_function_global I.ok.kind hg (Calls.loadGlobal_global (by rw [I.ok.glob]; exact I.mod.glob.keeps I.bk) hm h) hd
theorem ld_blt {E : Value → Shared → Prop} {pins : List (Addr × Obj)} {s : Shared} {σ : St} {H : Hp} {x : Str} {u : Value} {pos : Pos} {Q : Value → Shared → Prop} (I : Inv X pins σ H s) (hg : Gl X x) (hm : X.mg x = none) (hv : bootBuiltins x = some u) (h : Q u s)
    (hn : x ≠ "__name__" := by decide) (hd : (x == ("__debug__" : Str)) = false := by decide) : wpAny (model X.prog X.w) X.A (eval (.Name x pos) X.env) Q E s := by
  obtain ⟨mb, h1, h2⟩ := I.mod.blt
  exact Calls.Name_function_global I.ok.kind hg (Calls.loadGlobal_builtin (by rw [I.ok.glob]; exact I.mod.glob.keeps I.bk) hm (by rw [I.ok.blt]; exact h1.keeps I.bk) ((h2 x hn).trans hv) h) hd
theorem pe_glob {x : Str} {v : V} {u : Value} {pos : Pos} (hg : Gl X x) (hm : X.mg x = some u) (r : RelV v u) (hd : (x == ("__debug__" : Str)) = false := by decide) : PE X (.Name x pos) (tC v) :=
  fun _ _ _ H _ I h => ld_glob I hg hm ⟨v, H, I, r, h⟩ hd
theorem pe_bltn {x : Str} {v : V} {u : Value} {pos : Pos} (hg : Gl X x) (hm : X.mg x = none) (hv : bootBuiltins x = some u) (r : RelV v u) (hn : x ≠ "__name__" := by decide) (hd : (x == ("__debug__" : Str)) = false := by decide) : PE X (.Name x pos) (tC v) :=
  fun _ _ _ H _ I h => ld_blt I hg hm hv ⟨v, H, I, r, h⟩ hn hd

variable {a b : Expr} {ta tb : TE} {pos : Pos}
noncomputable def PC (X : Cx) (op : CmpOp) (a b : Expr) (t : TE) : Prop :=
  ∀ (pins : List (Addr × Obj)) (s : Shared) (σ : St) (H : Hp) (Q : VK), Inv X pins σ H s → t σ H Q →
    wpAny (model X.prog X.w) X.A (eval a X.env) (fun v s₁ => wpAny (model X.prog X.w) X.A (eval b X.env) (fun u s₂ => wpAny (model X.prog X.w) X.A (compareOp op v u) (EP X pins σ Q) X.xe s₂) X.xe s₁) X.xe s
theorem nobehind (b : Expr) {op : CmpOp} (h : op ≠ .In) (h2 : op ≠ .NotIn) : behindInMarks op b = false := by
  have e1 : (op == CmpOp.In) = false := by cases op <;> first | rfl | exact absurd rfl h
  have e2 : (op == CmpOp.NotIn) = false := by cases op <;> first | rfl | exact absurd rfl h2
  cases b <;> simp [behindInMarks, e1, e2]
noncomputable def tB (t : TE) : TT := fun σ H Q => t σ H fun x H1 => RB x H1 Q
theorem pe_cmp {op : CmpOp} {t : TE} (h : PC X op a b t) (h1 : behindInMarks op b = false := by first | exact nobehind _ (by decide) (by decide) | rfl) : PE X (.Compare a [op] [b] pos) t := fun pins s σ H Q I hw => wpAny_Compare1 (h pins s σ H Q I hw) h1
theorem pt_cmp {op : CmpOp} {t : TE} (h : PC X op a b t) (h1 : behindInMarks op b = false := by first | exact nobehind _ (by decide) (by decide) | rfl) : PT X (.Compare a [op] [b] pos) (tB t) := by
  intro pins s σ H Q I hw
  refine wpAny_isTrue_Compare1 (thn (h pins s σ H _ I hw) fun v s1 h1 => thn h1 fun u s2 h2 => thn h2 fun c s3 ⟨x, H1, I1, r1, q1⟩ => ?_) h1
  obtain ⟨d, rfl, q⟩ := q1
  cases r1
  exact wpAny_truthy_bool ⟨H1, I1, q⟩
theorem pt_val {e : Expr} {t : TE} (h : PE X e t) (he : ∀ whole, isTrue e X.env whole = (do let v ← whole; standAt e.pos; holding [v] (truthy v)) := by intro _; rfl) : PT X e (tB t) := by
  intro pins s σ H Q I hw
  refine isTrue_plain (thn (h pins s σ H _ I hw) fun v s1 ⟨x, H1, I1, r1, q1⟩ => ?_) (he _)
  obtain ⟨d, rfl, q⟩ := q1
  cases r1
  exact wpAny_truthy_bool ⟨H1, I1, q⟩

variable {tA tB' : TT} {rest : List Expr}
noncomputable def tAnd (t u : TT) : TT := fun σ H Q => t σ H fun c H1 => if c = true then u σ H1 Q else Q false H1
noncomputable def tOr (t u : TT) : TT := fun σ H Q => t σ H fun c H1 => if c = true then Q true H1 else u σ H1 Q
noncomputable def tNot (t : TT) : TT := fun σ H Q => t σ H fun c H1 => Q (!c) H1
theorem pw_and1 (ha : PT X a tA) : PW X (.BoolOp .And [a] pos) tA := by
  intro wh pins s σ H Q I h
  refine isTrue_and (thn (ha pins s σ H Q I h) fun c s1 e => ?_)
  cases c with
  | true => exact isTrue_and_nil e
  | false => exact e
theorem pw_or1 (ha : PT X a tA) : PW X (.BoolOp .Or [a] pos) tA := by
  intro wh pins s σ H Q I h
  refine isTrue_or (thn (ha pins s σ H Q I h) fun c s1 e => ?_)
  cases c with
  | false => exact isTrue_or_nil e
  | true => exact e
theorem pw_and (ha : PT X a tA) (hb : PW X (.BoolOp .And (b :: rest) pos) tB') : PW X (.BoolOp .And (a :: b :: rest) pos) (tAnd tA tB') := by
  intro wh pins s σ H Q I h
  refine isTrue_and (thn (ha pins s σ H _ I h) fun c s1 ⟨H1, I1, q1⟩ => ?_)
  cases c with
  | true => exact hb wh pins s1 σ H1 Q I1 q1
  | false => exact ⟨H1, I1, q1⟩
theorem pw_or (ha : PT X a tA) (hb : PW X (.BoolOp .Or (b :: rest) pos) tB') : PW X (.BoolOp .Or (a :: b :: rest) pos) (tOr tA tB') := by
  intro wh pins s σ H Q I h
  refine isTrue_or (thn (ha pins s σ H _ I h) fun c s1 ⟨H1, I1, q1⟩ => ?_)
  cases c with
  | true => exact ⟨H1, I1, q1⟩
  | false => exact hb wh pins s1 σ H1 Q I1 q1
theorem pt_not (ha : PT X a tA) : PT X (.UnaryOp .Not a pos) (tNot tA) := by
  intro pins s σ H Q I h
  exact isTrue_not (ha pins s σ H (fun c H1 => Q (!c) H1) I h)
noncomputable def tAndV (ta tb : TE) : TE := fun σ H Q => ta σ H fun x H1 => ∃ c, x = .bl c ∧ if c = true then tb σ H1 Q else Q (.bl false) H1
theorem pe_one {op} {t : TE} (h : PE X a t) : PE X (.BoolOp op [a] pos) t := fun pins s σ H Q I hw => BoolOp_one (h pins s σ H Q I hw)
theorem pe_and (ha : PE X a ta) (hb : PE X (.BoolOp .And (b :: rest) pos) tb) : PE X (.BoolOp .And (a :: b :: rest) pos) (tAndV ta tb) := by
  intro pins s σ H Q I h
  refine BoolOp_and (thn (ha pins s σ H _ I h) fun v s1 ⟨x, H1, I1, r1, q1⟩ => ?_)
  obtain ⟨c, rfl, q1⟩ := q1
  cases r1
  refine wpAny_truthy_bool ?_
  cases c with
  | true => exact hb pins s1 σ H1 Q I1 q1
  | false => exact ⟨.bl false, H1, I1, rfl, q1⟩
end
end L2

namespace L2
open PySem PySem.Spec PyProof.Rows

noncomputable def SqL (K : PySem.W.Frag) (H : Hp) (a : Addr) (xs : List V) : Prop :=
  Rd H a (.lst xs) ∨
    ∃ (o : Obj) (its : Array Value) (n : Nat), K.lookup a = some o ∧ o.cls = .type "list" ∧ o.dict = none ∧ o.data = .seq its n ∧ its.size ≤ sizeLine ∧ Vals xs its.toList
noncomputable def SqT (K : PySem.W.Frag) (H : Hp) (a : Addr) (xs : List V) : Prop :=
  Rd H a (.tup xs) ∨
    ∃ (o : Obj) (its : Array Value) (n : Nat), K.lookup a = some o ∧ o.cls = .type "tuple" ∧ o.data = .seq its n ∧ its.size ≤ sizeLine ∧ Vals xs its.toList
noncomputable def absV : Value → Option V
  | .none => some .non
  | .bool b => some (.bl b)
  | .int i _ => some (.int i)
  | .str x _ => some (.str x)
  | .bytes b _ => some (.byt b)
  | .float b _ => some (.flt b)
  | .ref a => some (.ref a)
  | .type n => some (.ty n)
  | _ => none
theorem RelV.abs {x : V} {u : Value} (r : RelV x u) : absV u = some x := by
  cases x with
  | non => cases r; rfl
  | bl _ => cases r; rfl
  | int _ => obtain ⟨t, rfl⟩ := r; rfl
  | str _ => obtain ⟨t, rfl⟩ := r; rfl
  | byt _ => obtain ⟨t, rfl⟩ := r; rfl
  | flt _ => obtain ⟨t, rfl⟩ := r; rfl
  | ref _ => cases r; rfl
  | ty _ => cases r; rfl
theorem RelV.inj {x y : V} {u : Value} (r : RelV x u) (q : RelV y u) : x = y := Option.some.inj (r.abs.symm.trans q.abs)
theorem Vals.inj : ∀ {xs ys : List V} {us : List Value}, Vals xs us → Vals ys us → xs = ys
  | _, _, _, .nil, .nil => rfl
  | _, _, _, .cons r t, .cons r' t' => by rw [r.inj r', Vals.inj t t']
section
variable {X : Cx} {pins : List (Addr × Obj)} {σ : St} {H : Hp} {s : Shared} {a : Addr} {xs ys : List V}
theorem SqL.of {K : PySem.W.Frag} (h : H a = some (.lst xs)) : SqL K H a xs := .inl (.inl h)
theorem SqT.of {K : PySem.W.Frag} (h : H a = some (.tup xs)) : SqT K H a xs := .inl (.inl h)
theorem Inv.list (I : Inv X pins σ H s) (h : SqL X.K H a xs) : ∃ its : List Value, Vals xs its ∧ PlainL s.heap a its.toArray ∧ xs.length ≤ sizeLine := by
  rcases h with h | ⟨o, its, n, hk, hc, hd, hs, hz, r⟩
  · obtain ⟨z, its, n, r, e⟩ := h.ok I.hok
    exact ⟨its, r, ⟨_, n, e, rfl, rfl, rfl⟩, z⟩
  · refine ⟨its.toList, r, ⟨o, n, I.kIn a o hk, hc, hd, by simpa using hs⟩, ?_⟩
    have e := r.length
    simp only [Array.length_toList] at e
    omega
theorem Inv.tuple (I : Inv X pins σ H s) (h : SqT X.K H a xs) : ∃ its : List Value, Vals xs its ∧ IsTup s.heap a its.toArray ∧ xs.length ≤ sizeLine := by
  rcases h with h | ⟨o, its, n, hk, hc, hs, hz, r⟩
  · obtain ⟨z, its, r, p⟩ := h.ok I.hok
    exact ⟨its, r, p.1, z⟩
  · refine ⟨its.toList, r, ⟨o, I.kIn a o hk, hc, n, by simpa using hs⟩, ?_⟩
    have e := r.length
    simp only [Array.length_toList] at e
    omega
theorem Inv.list_inj (I : Inv X pins σ H s) (h : SqL X.K H a xs) (h' : SqL X.K H a ys) : xs = ys := by
  obtain ⟨its, r, ⟨o, n, e, _, _, d⟩, _⟩ := I.list h
  obtain ⟨its', r', ⟨o', n', e', _, _, d'⟩, _⟩ := I.list h'
  rw [e] at e'; cases e'
  rw [d] at d'
  injection d' with d1 _
  have : its = its' := by simpa using congrArg Array.toList d1
  subst this
  exact r.inj r'
end

noncomputable abbrev Cx.wish (X : Cx) (E : Value → Shared → Prop) : Cx := { X with xe := E }
noncomputable abbrev Cx.nox (X : Cx) : Cx := X.wish fun _ _ => False
theorem Cx.Ok.wish {X : Cx} (ok : X.Ok) (E : Value → Shared → Prop) : (X.wish E).Ok :=
  ⟨ok.mod, ok.kind, ok.glob, ok.blt, ok.above, ok.inj, ok.has, ok.cab, ok.hd, ok.frames, ok.stk, ok.exf, ok.bs, ok.bsz, ok.noex, ok.exfs, ok.funs, ok.frf⟩
theorem Cx.Ok.unwish {X : Cx} {E : Value → Shared → Prop} (ok : (X.wish E).Ok) : X.Ok :=
  ⟨ok.mod, ok.kind, ok.glob, ok.blt, ok.above, ok.inj, ok.has, ok.cab, ok.hd, ok.frames, ok.stk, ok.exf, ok.bs, ok.bsz, ok.noex, ok.exfs, ok.funs, ok.frf⟩
section
variable {X : Cx} {pins : List (Addr × Obj)} {σ : St} {H : Hp} {s : Shared} {E : Value → Shared → Prop}
theorem Inv.wish (I : Inv X pins σ H s) (E : Value → Shared → Prop) : Inv (X.wish E) pins σ H s := ⟨I.ok.wish E, I.os, I.bare, I.base, I.loc, I.cell, I.free, I.freeC, I.pin, I.hok, I.len⟩
theorem Inv.unwish (I : Inv (X.wish E) pins σ H s) : Inv X pins σ H s := ⟨I.ok.unwish, I.os, I.bare, I.base, I.loc, I.cell, I.free, I.freeC, I.pin, I.hok, I.len⟩
theorem SP.unwish {D : Ends} {f : Flow} {s' : Shared} (h : SP (X.wish E) pins D f s') : SP X pins D f s' := by
  cases f with
  | next => obtain ⟨σ', H', I, q⟩ := h; exact ⟨σ', H', I.unwish, q⟩
  | brk => obtain ⟨σ', H', I, q⟩ := h; exact ⟨σ', H', I.unwish, q⟩
  | cont => obtain ⟨σ', H', I, q⟩ := h; exact ⟨σ', H', I.unwish, q⟩
  | ret u => obtain ⟨v, σ', H', I, r, q⟩ := h; exact ⟨v, σ', H', I.unwish, r, q⟩
theorem PSs.nox {st : List Stmt} {t : TS} (h : PSs X.nox st t) : PSs X st t := fun pins s σ H D I hw =>
  wpAny_mono (h pins s σ H D (I.wish _) hw) (fun _ _ q => q.unwish) fun _ _ z => False.elim z
end

section
variable {X : Cx} {st : Stmt} {rest : List Stmt} {t u : TS} {e : Expr} {te : TE} {pos : Pos}
noncomputable def tNext : TS := fun D σ H => D.nx σ H
noncomputable def tSeq (t u : TS) : TS := fun D σ H => t { D with nx := u D } σ H
theorem pss_nil : PSs X [] tNext := fun _ _ σ H _ I h => wpAny_execs_nil ⟨σ, H, I, h⟩
theorem pss_cons (h1 : PS X st t) (h2 : PSs X rest u) : PSs X (st :: rest) (tSeq t u) := by
  intro pins s σ H D I h
  refine wpAny_execs_cons (thn (h1 pins s σ H { D with nx := u D } I h) fun f s1 q => ?_)
  cases f with
  | next =>
    obtain ⟨σ', H', I', q⟩ := q
    exact h2 pins s1 σ' H' D I' q
  | ret v => exact q
  | brk => exact q
  | cont => exact q
theorem pss_one (h1 : PS X st t) : PSs X [st] t := by
  intro pins s σ H D I h
  refine wpAny_execs_cons (thn (h1 pins s σ H D I h) fun f s1 q => ?_)
  cases f with
  | next => exact wpAny_execs_nil q
  | ret v => exact q
  | brk => exact q
  | cont => exact q
theorem Inv.quiet {pins : List (Addr × Obj)} {σ : St} {H : Hp} {s : Shared} (I : Inv X pins σ H s) : interactive X.env = false := by simp [interactive, I.ok.kind]
noncomputable def tDrop (te : TE) : TS := fun D σ H => te σ H fun _ H1 => D.nx σ H1
theorem ps_expr (he : PE X e te) (hs : swapsWith e none pos.line X.env = pure false := by rfl) : PS X (.Expr e pos) (tDrop te) := by
  intro pins s σ H D I h
  exact wpAny_Expr_any (thn (he pins s σ H _ I h) fun v s1 ⟨x, H1, I1, r1, q1⟩ => ⟨σ, H1, I1, q1⟩) I.quiet hs
noncomputable def tRet (te : TE) : TS := fun D σ H => te σ H D.rt
theorem ps_ret (he : PE X e te) : PS X (.Return (some e) pos) (tRet te) := by
  intro pins s σ H D I h
  exact wpAny_Return_some (thn (he pins s σ H _ I h) fun v s1 ⟨x, H1, I1, r1, q1⟩ => ⟨x, σ, H1, I1, r1, q1⟩)
noncomputable def tIfS (c : TT) (t u : TS) : TS := fun D σ H => c σ H fun b H1 => if b = true then t D σ H1 else u D σ H1
theorem ps_if {c : Expr} {a b : List Stmt} {tc : TT} (hc : PT X c tc) (ha : PSs X a t) (hb : PSs X b u) : PS X (.If c a b pos) (tIfS tc t u) := by
  intro pins s σ H D I h
  refine wpAny_If (thn (hc pins s σ H _ I h) fun d s1 ⟨H1, I1, q1⟩ => ?_)
  cases d with
  | true => exact ha pins s1 σ H1 D I1 q1
  | false => exact hb pins s1 σ H1 D I1 q1
end

noncomputable abbrev TG := V → St → Hp → (St → Hp → Prop) → Prop
noncomputable abbrev TGs := List V → St → Hp → (St → Hp → Prop) → Prop
noncomputable def PG (X : Cx) (target : Expr) (t : TG) : Prop :=
  ∀ (pins : List (Addr × Obj)) (s : Shared) (σ : St) (H : Hp) (v : V) (u : Value) (Q : St → Hp → Prop), Inv X pins σ H s → RelV v u → t v σ H Q →
    wpAny (model X.prog X.w) X.A (assign target X.env u) (fun _ s' => ∃ σ' H', Inv X pins σ' H' s' ∧ Q σ' H') X.xe s
noncomputable def PGs (X : Cx) (ts : List Expr) (t : TGs) : Prop :=
  ∀ (pins : List (Addr × Obj)) (s : Shared) (σ : St) (H : Hp) (vs : List V) (us : List Value) (Q : St → Hp → Prop), Inv X pins σ H s → Vals vs us → t vs σ H Q →
    wpAny (model X.prog X.w) X.A (assignInOrder ((assignEach ts X.env).map (·.2)) us) (fun _ s' => ∃ σ' H', Inv X pins σ' H' s' ∧ Q σ' H') X.xe s
section
variable {X : Cx} {pos : Pos}
noncomputable def gName (i : Nat) : TG := fun v σ H Q => Q (σ.set i (some v)) H
theorem pg_name {i : Nat} {x : Str} (hN : X.N.Nodup) (hi : X.N[i]? = some x) (hx : Loc X.env.scope x) (hf : X.fn x = true ∨ X.env.scope.names.lookup x = some .local := by first | exact .inl rfl | exact .inr rfl | assumption) : PG X (.Name x pos) (gName i) := by
  intro pins s σ H v u Q I r h
  exact wpAny_assign_Name (store_ok I hN hi hx r (fun s' I' => ⟨_, H, I', h⟩) hf)
noncomputable def gNil : TGs := fun vs σ H Q => vs = [] ∧ Q σ H
noncomputable def gCons (t : TG) (u : TGs) : TGs := fun vs σ H Q => ∃ v r, vs = v :: r ∧ t v σ H fun σ' H' => u r σ' H' Q
theorem pgs_nil : PGs X [] gNil := by
  intro pins s σ H vs us Q I r h
  obtain ⟨e, h⟩ := h
  subst e
  cases r
  exact assignInOrder_nil ⟨σ, H, I, h⟩
theorem pgs_cons {e : Expr} {es : List Expr} {t : TG} {u : TGs} (h1 : PG X e t) (h2 : PGs X es u)
    (hs : (assignEach (e :: es) X.env).map (·.2) = assign e X.env :: (assignEach es X.env).map (·.2) := by rfl) : PGs X (e :: es) (gCons t u) := by
  intro pins s σ H vs us Q I r h
  obtain ⟨v, vr, e1, h⟩ := h
  subst e1
  cases r with
  | cons r rr =>
    rw [hs]
    refine assignInOrder_cons (thn (h1 pins s σ H _ _ _ I r h) fun _ s1 ⟨σ1, H1, I1, q1⟩ => ?_)
    exact h2 pins s1 σ1 H1 _ _ Q I1 rr q1
noncomputable def gTup (K : PySem.W.Frag) (n : Nat) (t : TGs) : TG := fun v σ H Q => ∃ a xs, v = .ref a ∧ SqT K H a xs ∧ xs.length = n ∧ t xs σ H Q
theorem pg_tup {es : List Expr} {k : Nat} {t : TGs} {n : Nat} (hc : X.calm = true) (h : PGs X es t)
    (hn : (assignEach es X.env).length = n := by rfl) (hst : (assignEach es X.env).findIdx? (·.1) = none := by rfl) : PG X (.Tuple es k pos) (gTup X.K n t) := by
  intro pins s σ H v u Q I r hw
  obtain ⟨a, xs, e1, hq, hl, hw⟩ := hw
  subst e1
  cases r
  obtain ⟨its, rv, ht, hz⟩ := I.tuple hq
  refine assign_Tuple_tuple (I.ok.hd hc) ht (by simp [hn, ← hl, rv.length]) hst fun h' hx => ?_
  have I1 : Inv X pins σ H { s with heap := h' } := I.kept (t' := s.toks) fun b o e => hx b o (Nat.ne_of_lt (Heap.lt_size e)) e
  exact h pins _ σ H xs _ Q I1 (by simpa using rv) hw
noncomputable def tAsg (te : TE) (g : TG) : TS := fun D σ H => te σ H fun x H1 => g x σ H1 D.nx
theorem ps_set {i : Nat} {x : Str} {e : Expr} {te : TE} {pos' : Pos} (hN : X.N.Nodup) (hi : X.N[i]? = some x) (hx : Loc X.env.scope x) (he : PE X e te) (hs : swapsWith e (some (.Name x pos')) pos.line X.env = pure false := by rfl) (hf : X.fn x = true ∨ X.env.scope.names.lookup x = some .local := by first | exact .inl rfl | exact .inr rfl | assumption) :
    PS X (.Assign [.Name x pos'] e pos) (tAsg te (gName i)) := by
  intro pins s σ H D I h
  refine wpAny_Assign_Name (thn (he pins s σ H _ I h) fun v s1 ⟨y, H1, I1, r1, q1⟩ => ?_) hs
  exact store_ok I1 hN hi hx r1 (fun s2 I2 => ⟨_, H1, I2, q1⟩) hf
end


set_option genInjectivity false in
set_option genSizeOf false in
structure It where
  go : Nat → Hp → Prop
  yld : Nat → Hp → V → Hp → Prop
  stop : Nat → Hp → Prop
noncomputable def FpOk (X : Cx) (pins : List (Addr × Obj)) (H : Hp) (b : Addr) : Prop :=
  H b = none ∧ b ≠ X.env.locals ∧ b ∉ X.fs ∧ (b ∈ X.ex ∨ X.s₀.heap.objs.size ≤ b) ∧ (∀ x c, X.env.cells.lookup x = some c → c ≠ b) ∧ ∀ p ∈ X.pn ++ pins, p.1 ≠ b
theorem Inv.fpOk {X : Cx} {pins : List (Addr × Obj)} {σ : St} {H H' : Hp} {s : Shared} {b : Addr} (I : Inv X pins σ H s) (hb : s.heap.objs.size ≤ b) (hn : H' b = none) : FpOk X pins H' b := by
  refine ⟨hn, Nat.ne_of_gt (Nat.lt_of_lt_of_le I.lt hb), I.nofs hb, .inr (Nat.le_trans I.sz hb), fun x c e z => ?_, fun p hp z => ?_⟩
  · obtain ⟨v, q⟩ := I.cell x c e
    exact absurd (Nat.lt_of_lt_of_le q.lt (by rw [z]; exact hb)) (Nat.lt_irrefl _)
  · exact absurd (Nat.lt_of_lt_of_le (Heap.lt_size (I.pin p hp).1) (by rw [z]; exact hb)) (Nat.lt_irrefl _)
set_option genInjectivity false in
set_option genSizeOf false in
structure Turn (P : Program) (w : World) (K : PySem.W.Frag) (tg : Expr) (J : It) (fp : List Addr) (it : Addr) (tn : Nat → Heap → Prop) : Prop where
  mem : it ∈ fp
  obj : ∀ i h, tn i h → ∀ b ∈ fp, ∃ o, h.get? b = some o ∧ ∀ v, o.data ≠ .cell v
  keep : ∀ i h h', tn i h → (∀ b ∈ fp, ∀ o, h.get? b = some o → h'.get? b = some o) → tn i h'
  item : ∀ (X : Cx), X.prog = P → X.w = w → X.K = K → X.calm = true → ∀ (i : Nat) (pins : List (Addr × Obj)) (s : Shared) (σ : St) (H : Hp) (E : Value → Shared → Prop), Inv X pins σ H s → (∀ b ∈ fp, FpOk X pins H b) → tn i s.heap → J.go i H →
    wpAny (model P w) X.A (pyNext (.ref it)) (fun r s1 => ∃ u, r = some u ∧
      wpAny (model P w) X.A (letOwnedTupleGo tg (.ref it) u) (fun _ s2 => ∃ x H', Inv X pins σ H' s2 ∧ RelV x u ∧ J.yld i H x H' ∧ tn (i + 1) s2.heap ∧ ∀ b ∈ fp, H' b = none) E s1) E s
  done : ∀ (X : Cx), X.prog = P → X.w = w → X.K = K → X.calm = true → ∀ (i : Nat) (pins : List (Addr × Obj)) (s : Shared) (σ : St) (H : Hp) (E : Value → Shared → Prop), Inv X pins σ H s → (∀ b ∈ fp, FpOk X pins H b) → tn i s.heap → J.stop i H →
    wpAny (model P w) X.A (pyNext (.ref it)) (fun r s1 => r = none ∧ Inv X pins σ H s1) E s
  self : ∀ (A : Around) (i : Nat) (s : Shared) (Q : Value → Shared → Prop) (E : Value → Shared → Prop), tn i s.heap → Q (.ref it) s → wpAny (model P w) A (pyIter (.ref it)) Q E s
noncomputable abbrev TI := St → Hp → (It → Hp → Prop) → Prop
noncomputable def PIE (X : Cx) (pins : List (Addr × Obj)) (σ : St) (tg : Expr) (R : It → Hp → Prop) (itv : Value) (s2 : Shared) : Prop :=
  ∃ (it : Addr) (fp : List Addr) (tn : Nat → Heap → Prop) (J : It) (H' : Hp), itv = .ref it ∧ Inv X pins σ H' s2 ∧ Turn X.prog X.w X.K tg J fp it tn ∧ tn 0 s2.heap ∧ (∀ b ∈ fp, FpOk X pins H' b) ∧ R J H'
noncomputable def PI (X : Cx) (tg iter : Expr) (wi : TI) : Prop :=
  ∀ (pins : List (Addr × Obj)) (s : Shared) (σ : St) (H : Hp) (R : It → Hp → Prop), Inv X pins σ H s → wi σ H R →
    wpAny (model X.prog X.w) X.A (eval iter X.env) (fun v s1 => wpAny (model X.prog X.w) X.A (pyIter v) (PIE X pins σ tg R) X.xe s1) X.xe s

theorem go_of {M : Model} {A : Around} {E : Value → Shared → Prop} {s : Shared} {tg : Expr} {it : Addr} {u : Value} {o : Obj} {n : String} {vs : Array Value} {Q : Unit → Shared → Prop} (ho : s.heap.get? it = some o) (hc : o.cls = .type n) (hd : o.data = .fields vs)
    (hn : ["enumerate", "zip", "dict_itemiterator", "dict_reverseitemiterator", "odict_iterator", "itertools.zip_longest", "itertools.pairwise"].contains n = false) (hQ : Q () s) : wpAny M A (letOwnedTupleGo tg (.ref it) u) Q E s := by
  unfold letOwnedTupleGo
  cases tg <;> first
    | exact wpAny_pure hQ
    | (cases u <;> first
        | exact wpAny_pure hQ
        | (refine wpAny_bind (wpAny_load ho ?_)
           rw [hc, hd]
           show wpAny M A (if (["enumerate", "zip", "dict_itemiterator", "dict_reverseitemiterator", "odict_iterator", "itertools.zip_longest", "itertools.pairwise"].contains n && vs[0]? == some (rawInt _)) = true then _ else _) Q E s
           rw [if_neg (by intro h; rw [hn, Bool.false_and] at h; cases h)]
           exact wpAny_pure hQ))

noncomputable def Itl (K : PySem.W.Frag) (a : Addr) : It :=
  ⟨fun i H => ∃ xs x, SqL K H a xs ∧ xs[i]? = some x, fun i H x H' => H' = H ∧ ∀ xs, SqL K H a xs → xs[i]? = some x, fun i H => ∃ xs, SqL K H a xs ∧ xs.length ≤ i⟩
noncomputable def Itr (lo : Int) (n : Nat) : It := ⟨fun i _ => i < n, fun i H x H' => H' = H ∧ x = .int (lo + i), fun i _ => n ≤ i⟩
theorem turn_list {P : Program} {w : World} {K : PySem.W.Frag} {tg : Expr} (a it : Addr) : Turn P w K tg (Itl K a) [it] it (fun i h => h.IsListIter it a i) where
  mem := by simp
  obj := fun i h st b hb => by
    have e : b = it := by simpa using hb
    subst e
    obtain ⟨o, e, c, d⟩ := st
    exact ⟨o, e, fun v z => by rw [d] at z; cases z⟩
  keep := fun i h h' st k => st.at fun o e => k it (by simp) o e
  item := by
    intro X hP hw hK hc i pins s σ H E I hf st hg
    subst hP hw hK
    obtain ⟨xs, x, hq, hx⟩ := hg
    obtain ⟨its, rv, p, hz⟩ := I.list hq
    obtain ⟨u, hu, ru⟩ := rv.get hx
    obtain ⟨f0, f1, f2, f3, f4, f5⟩ := hf it (by simp)
    refine wpAny_pyNext_list_item st p.isList (x := u) (by simpa using hu) fun h' st' sb => ?_
    have I1 : Inv X pins σ H { s with heap := h' } := I.turned (t' := s.toks) (fun b o hb e => (sb.2 b hb).trans e) f0 f1 f3 f4 f5
    obtain ⟨o, e, c, d⟩ := id st'
    exact ⟨u, rfl, go_of (s := { s with heap := h' }) e c d (by decide) ⟨x, H, I1, ru, ⟨rfl, fun ys hy => by rw [I.list_inj hy hq]; exact hx⟩, st', fun b hb => (hf b hb).1⟩⟩
  done := by
    intro X hP hw hK hc i pins s σ H E I hf st hg
    subst hP hw hK
    obtain ⟨xs, hq, hx⟩ := hg
    obtain ⟨its, rv, p, hz⟩ := I.list hq
    obtain ⟨f0, f1, f2, f3, f4, f5⟩ := hf it (by simp)
    have hl := rv.length
    exact wpAny_pyNext_list_end (I.ok.hd hc) st p.isList (by simp; omega) fun h' eb => ⟨rfl, I.turned (t' := s.toks) (fun b o hb e => eb b o hb e) f0 f1 f3 f4 f5⟩
  self := fun _ _ _ _ _ st h => wpAny_pyIter_listiter st h
theorem turn_range {P : Program} {w : World} {K : PySem.W.Frag} {tg : Expr} (it : Addr) (lo : Int) (n : Nat) : Turn P w K tg (Itr lo n) [it] it (fun i h => IsRangeIter h it (lo + (i : Nat) * 1) ((n : Int) - (i : Nat)) 1) where
  mem := by simp
  obj := fun i h st b hb => by
    have e : b = it := by simpa using hb
    subst e
    exact ⟨_, st, fun v z => by
      have z' : Data.fields _ = Data.cell v := z
      cases z'⟩
  keep := fun i h h' st k => k it (by simp) _ st
  item := by
    intro X hP hw hK hc i pins s σ H E I hf st hg
    subst hP hw hK
    obtain ⟨f0, f1, f2, f3, f4, f5⟩ := hf it (by simp)
    have W := Walks.range (prog := X.prog) (w := X.w) (I.ok.hd hc) it lo 1 n
    refine W.item i s _ _ hg st fun v h' tk hv st' kk => ?_
    obtain ⟨t, rfl⟩ := hv
    have I1 : Inv X pins σ H { s with heap := h', toks := tk } := I.turned (fun b o hb e => kk b o (by simpa using hb) e) f0 f1 f3 f4 f5
    refine ⟨_, rfl, go_of (s := { s with heap := h', toks := tk }) (n := "range_iterator") st' rfl rfl (by decide) ⟨.int (lo + i), H, I1, ⟨t, ?_⟩, ⟨rfl, rfl⟩, st', fun b hb => (hf b hb).1⟩⟩
    rw [Int.mul_one]
  done := by
    intro X hP hw hK hc i pins s σ H E I hf st hg
    subst hP hw hK
    obtain ⟨f0, f1, f2, f3, f4, f5⟩ := hf it (by simp)
    exact wpAny_pyNext_range_end (I.ok.hd hc) st (by have : n ≤ i := hg; omega) fun h' eb => ⟨rfl, I.turned (t' := s.toks) (fun b o hb e => eb b o hb e) f0 f1 f3 f4 f5⟩
  self := fun _ _ _ _ _ st h => wpAny_pyIter_rangeiter st h
end L2

namespace L2
open PySem PySem.Spec PyProof.Rows
section
variable {X : Cx} {tg : Expr}
noncomputable def iList (K : PySem.W.Frag) (tl : TE) : TI := fun σ H R => tl σ H fun x H1 => ∃ a, x = .ref a ∧ (∃ xs, SqL K H1 a xs) ∧ R (Itl K a) H1
theorem pi_list {l : Expr} {tl : TE} (hl : PE X l tl) : PI X tg l (iList X.K tl) := by
  intro pins s σ H R I h
  refine thn (hl pins s σ H _ I h) fun v s1 ⟨x, H1, I1, r1, q1⟩ => ?_
  obtain ⟨a, e, ⟨xs, hq⟩, q⟩ := q1
  subst e
  cases r1
  obtain ⟨its, rv, p, hz⟩ := I1.list hq
  refine wpAny_pyIter_list p.isList ?_
  refine ⟨s1.heap.objs.size, [s1.heap.objs.size], _, _, H1, rfl, I1.kept (t' := s1.toks) fun b o e => Heap.get?_push_of_some _ e, turn_list a _, ⟨_, Heap.get?_push_size _ rfl, rfl, rfl⟩, fun b hb => ?_, q⟩
  have e : b = s1.heap.objs.size := by simpa using hb
  subst e
  exact I1.fpOk (Nat.le_refl _) (I1.hok.fresh (Nat.le_refl _))
theorem range_it {pins : List (Addr × Obj)} {σ : St} {H : Hp} {s : Shared} {R : It → Hp → Prop} {E : Value → Shared → Prop} {lo hi : Int} {t u v : Tok} {tk : Nat} (I : Inv X pins σ H s) (h1 : -(2 ^ 62) ≤ lo) (h2 : lo < 2 ^ 62) (h3 : -(2 ^ 62) ≤ hi) (h4 : hi < 2 ^ 62)
    (q : R (Itr lo (hi - lo).toNat) H) : wpAny (model X.prog X.w) X.A (pyIter (.ref s.heap.objs.size)) (PIE X pins σ tg R) E { s with heap := s.heap.push { cls := .type "range", data := .fields #[.int lo t, .int hi u, .int 1 v] }, toks := tk } := by
  refine wpAny_pyIter_range (IsRange.new ..) (small_one h1 h2 h3 h4) ?_
  have I1 : Inv X pins σ H { s with heap := s.heap.push { cls := .type "range", data := .fields #[.int lo t, .int hi u, .int 1 v] }, toks := tk } := I.kept fun b o e => Heap.get?_push_of_some _ e
  refine ⟨(s.heap.push { cls := .type "range", data := .fields #[.int lo t, .int hi u, .int 1 v] }).objs.size, [(s.heap.push { cls := .type "range", data := .fields #[.int lo t, .int hi u, .int 1 v] }).objs.size], _, _, H, rfl,
    I1.kept (t' := tk) fun b o e => Heap.get?_push_of_some _ e, turn_range _ lo (hi - lo).toNat, ?_, fun b hb => ?_, q⟩
  · have e1 : lo + ((0 : Nat) : Int) * 1 = lo := by simp
    have e2 : (((hi - lo).toNat : Nat) : Int) - ((0 : Nat) : Int) = Builtin.Range.rangeSize lo hi 1 := by rw [rangeSize_one]; split <;> omega
    show IsRangeIter _ _ (lo + ((0 : Nat) : Int) * 1) ((((hi - lo).toNat : Nat) : Int) - ((0 : Nat) : Int)) 1
    rw [e1, e2]
    exact Heap.get?_push_size _ rfl
  · have e : b = (s.heap.push { cls := .type "range", data := .fields #[.int lo t, .int hi u, .int 1 v] }).objs.size := by simpa using hb
    subst e
    exact I1.fpOk (Nat.le_refl _) (I1.hok.fresh (Nat.le_refl _))
noncomputable def iRng1 (ta : TA) : TI := fun σ H R => ta σ H fun vs H1 => ∃ j : Int, vs = [.int j] ∧ -(2 ^ 62) ≤ j ∧ j < 2 ^ 62 ∧ R (Itr 0 j.toNat) H1
theorem pi_range1 {a : Expr} {ta : TA} {p pos : Pos} (hg : Gl X "range") (hm : X.mg "range" = none) (ha : PA X [a] ta) (hs : starEach [a] X.env = [(false, eval a X.env)] := by rfl) : PI X tg (.Call (.Name "range" p) [a] [] pos) (iRng1 ta) := by
  intro pins s σ H R I h
  refine Call_ (ld_blt I hg hm boot_range (PyProof.Rows.callWith_type1 (thn (ha pos pins s σ H _ I h) fun us s1 ⟨vs, H1, I1, r1, q1⟩ => ?_) hs rfl))
  obtain ⟨j, e, q1, q2, q⟩ := q1
  subst e
  cases r1 with
  | cons r rr =>
    cases rr
    obtain ⟨t, rfl⟩ := r
    exact call_range_1 (range_it I1 (by omega) (by omega) q1 q2 (by simpa using q))
noncomputable def tFor (wi : TI) (g : TG) (tb : TS) : TS := fun D σ H => wi σ H fun J H1 => ∃ W : Nat → Nat → St → Hp → Prop, (∃ m, W 0 m σ H1) ∧ ∀ i m σ H, W i m σ H →
  (J.stop i H ∧ D.nx σ H) ∨ (J.go i H ∧ ∃ N : St → Hp → Prop, (∀ σ' H', N σ' H' → ∃ m', m' < m ∧ W (i + 1) m' σ' H') ∧ ∀ x H', J.yld i H x H' → g x σ H' fun σ2 H2 => tb { D with nx := N, ct := N, bk := D.nx } σ2 H2)
noncomputable def pinsAt (fp : List Addr) (h : Heap) : List (Addr × Obj) := fp.filterMap fun b => (h.get? b).map fun o => (b, o)
theorem mem_pinsAt {fp : List Addr} {h : Heap} {b : Addr} {o : Obj} (hb : b ∈ fp) (e : h.get? b = some o) : (b, o) ∈ pinsAt fp h := List.mem_filterMap.mpr ⟨b, hb, by rw [e]; rfl⟩
theorem of_pinsAt {fp : List Addr} {h : Heap} {p : Addr × Obj} (hp : p ∈ pinsAt fp h) : p.1 ∈ fp ∧ h.get? p.1 = some p.2 := by
  obtain ⟨b, hb, e⟩ := List.mem_filterMap.mp hp
  cases q : h.get? b with
  | none => rw [q] at e; cases e
  | some o =>
    rw [q] at e
    have e' : (b, o) = p := Option.some.inj e
    subst e'
    exact ⟨hb, q⟩
theorem Inv.pinned {pins : List (Addr × Obj)} {σ : St} {H : Hp} {s : Shared} {fp : List Addr} (I : Inv X pins σ H s) (hf : ∀ b ∈ fp, FpOk X pins H b) (ho : ∀ b ∈ fp, ∃ o, s.heap.get? b = some o ∧ ∀ v, o.data ≠ .cell v) : Inv X (pins ++ pinsAt fp s.heap) σ H s :=
  I.pins_of fun p hp => (List.mem_append.mp hp).elim (fun z => I.pin p (List.mem_append_right _ z)) fun z => by
    obtain ⟨hb, e⟩ := of_pinsAt z
    obtain ⟨f0, f1, f2, _⟩ := hf p.1 hb
    obtain ⟨o, e', d⟩ := ho p.1 hb
    rw [e] at e'; cases e'
    exact ⟨e, f0, f1, f2, d⟩
theorem Inv.unpinned {pins pl : List (Addr × Obj)} {σ : St} {H : Hp} {s : Shared} (I : Inv X (pins ++ pl) σ H s) : Inv X pins σ H s := I.pins_of fun p hp => I.pin p (List.mem_append_right _ (List.mem_append_left _ hp))
theorem ps_for {iter : Expr} {body : List Stmt} {wi : TI} {g : TG} {tb : TS} {pos : Pos} (hp : PassesOwn (model X.prog X.w) X.A X.env X.xe) (hc : X.calm = true) (hi : PI X tg iter wi) (hg : PG X tg g) (hb : PSs X body tb)
    (hs : ∀ x, foldedSetIterable iter X.env x = pure x := by intro _; rfl) : PS X (.For tg iter body [] pos) (tFor wi g tb) := by
  intro pins s σ H D I h
  refine wpAny_For (thn (hi pins s σ H _ I h) fun v s1 h1 => thn h1 fun itv s2 h2 => ?_) hs
  obtain ⟨it, fp, tn, J, H2, e, I2, T, st2, f2, W, ⟨m0, w0⟩, turn⟩ := h2
  subst e
  have stat : ∀ {H' : Hp}, (∀ b ∈ fp, H' b = none) → ∀ b ∈ fp, FpOk X pins H' b := fun hn b hb => ⟨hn b hb, (f2 b hb).2⟩
  refine codeAny_forLoop_any (fun n s' => ∃ i σ' H', Inv X pins σ' H' s' ∧ tn i s'.heap ∧ (∀ b ∈ fp, H' b = none) ∧ W i n σ' H') ?_ m0 ⟨0, σ, H2, I2, st2, fun b hb => (f2 b hb).1, w0⟩
  rintro n s3 ⟨i, σ3, H3, I3, st3, fr3, w3⟩
  rcases turn i n σ3 H3 w3 with ⟨stop, qn⟩ | ⟨go, N, hN, step⟩
  · refine wpAny_passesOwn hp (thn (T.done X rfl rfl rfl hc i pins s3 σ3 H3 X.xe I3 (stat fr3) st3 stop) fun r s4 ⟨hr, I4⟩ => ?_)
    subst hr
    exact wpAny_execs_nil ⟨σ3, H3, I4, qn⟩
  · refine wpAny_passesOwn hp (thn (T.item X rfl rfl rfl hc i pins s3 σ3 H3 X.xe I3 (stat fr3) st3 go) fun r s4 ⟨u, hr, h4⟩ => ?_)
    subst hr
    refine wpAny_passesOwn hp (thn h4 fun _ s5 ⟨x, H5, I5, r5, y5, st5, fr5⟩ => ?_)
    have I5' := I5.pinned (stat fr5) (T.obj _ _ st5)
    refine wpAny_passesOwn hp (thn (hg _ s5 σ3 H5 x u _ I5' r5 (step x H5 y5)) fun _ s6 ⟨σ6, H6, I6, q6⟩ => ?_)
    refine wpAny_passesOwn hp (thn (hb _ s6 σ6 H6 _ I6 q6) fun f s7 q7 => ?_)
    have again : ∀ {σ7 : St} {H7 : Hp}, Inv X (pins ++ pinsAt fp s5.heap) σ7 H7 s7 → N σ7 H7 → ∃ m, m < n ∧ ∃ i σ' H', Inv X pins σ' H' s7 ∧ tn i s7.heap ∧ (∀ b ∈ fp, H' b = none) ∧ W i m σ' H' := fun {σ7 H7} I7 n7 => by
      obtain ⟨m', hm, w7⟩ := hN σ7 H7 n7
      refine ⟨m', hm, i + 1, σ7, H7, I7.unpinned, T.keep _ _ _ st5 fun b hb o e => (I7.pin (b, o) (List.mem_append_right _ (List.mem_append_right _ (mem_pinsAt hb e)))).1, fun b hb => ?_, w7⟩
      obtain ⟨o, e, d⟩ := T.obj _ _ st5 b hb
      exact (I7.pin (b, o) (List.mem_append_right _ (List.mem_append_right _ (mem_pinsAt hb e)))).2.1
    cases f with
    | next => obtain ⟨σ7, H7, I7, n7⟩ := q7; exact again I7 n7
    | cont => obtain ⟨σ7, H7, I7, n7⟩ := q7; exact again I7 n7
    | brk => obtain ⟨σ7, H7, I7, q7⟩ := q7; exact ⟨σ7, H7, I7.unpinned, q7⟩
    | ret v => obtain ⟨x7, σ7, H7, I7, r7, q7⟩ := q7; exact ⟨x7, σ7, H7, I7.unpinned, r7, q7⟩
end

theorem for_list {K : PySem.W.Frag} {a : Addr} {xs : List V} {g : TG} {tb : TS} {D : Ends} {σ : St} {H : Hp} (Pv : Nat → St → Hp → Prop) (h0 : Pv 0 σ H) (hl : ∀ i σ H, i ≤ xs.length → Pv i σ H → SqL K H a xs)
    (hs : ∀ i x σ H, xs[i]? = some x → Pv i σ H → g x σ H fun σ2 H2 => tb { D with nx := Pv (i + 1), ct := Pv (i + 1), bk := D.nx } σ2 H2) (hd : ∀ σ H, Pv xs.length σ H → D.nx σ H) :
    ∃ W : Nat → Nat → St → Hp → Prop, (∃ m, W 0 m σ H) ∧ ∀ i m σ H, W i m σ H →
      ((Itl K a).stop i H ∧ D.nx σ H) ∨ ((Itl K a).go i H ∧ ∃ N : St → Hp → Prop, (∀ σ' H', N σ' H' → ∃ m', m' < m ∧ W (i + 1) m' σ' H') ∧ ∀ x H', (Itl K a).yld i H x H' → g x σ H' fun σ2 H2 => tb { D with nx := N, ct := N, bk := D.nx } σ2 H2) := by
  refine ⟨fun i m σ H => m = xs.length - i ∧ i ≤ xs.length ∧ Pv i σ H, ⟨xs.length, by simp, Nat.zero_le _, h0⟩, ?_⟩
  rintro i m σ H ⟨rfl, hi, p⟩
  have q := hl i σ H hi p
  by_cases hlt : i < xs.length
  · refine .inr ⟨⟨xs, xs[i], q, by simp [hlt]⟩, Pv (i + 1), fun σ' H' p' => ⟨xs.length - (i + 1), by omega, rfl, hlt, p'⟩, fun x H' y => ?_⟩
    obtain ⟨e, y⟩ := y
    subst e
    exact hs i x σ _ (y xs q) p
  · have e : i = xs.length := by omega
    subst e
    exact .inl ⟨⟨xs, q, Nat.le_refl _⟩, hd σ H p⟩
theorem for_range {lo : Int} {n : Nat} {g : TG} {tb : TS} {D : Ends} {σ : St} {H : Hp} (Pv : Nat → St → Hp → Prop) (h0 : Pv 0 σ H)
    (hs : ∀ i σ H, i < n → Pv i σ H → g (.int (lo + i)) σ H fun σ2 H2 => tb { D with nx := Pv (i + 1), ct := Pv (i + 1), bk := D.nx } σ2 H2) (hd : ∀ σ H, Pv n σ H → D.nx σ H) :
    ∃ W : Nat → Nat → St → Hp → Prop, (∃ m, W 0 m σ H) ∧ ∀ i m σ H, W i m σ H →
      ((Itr lo n).stop i H ∧ D.nx σ H) ∨ ((Itr lo n).go i H ∧ ∃ N : St → Hp → Prop, (∀ σ' H', N σ' H' → ∃ m', m' < m ∧ W (i + 1) m' σ' H') ∧ ∀ x H', (Itr lo n).yld i H x H' → g x σ H' fun σ2 H2 => tb { D with nx := N, ct := N, bk := D.nx } σ2 H2) := by
  refine ⟨fun i m σ H => m = n - i ∧ i ≤ n ∧ Pv i σ H, ⟨n, by simp, Nat.zero_le _, h0⟩, ?_⟩
  rintro i m σ H ⟨rfl, hi, p⟩
  by_cases hlt : i < n
  · refine .inr ⟨hlt, Pv (i + 1), fun σ' H' p' => ⟨n - (i + 1), by omega, rfl, hlt, p'⟩, fun x H' y => ?_⟩
    obtain ⟨e, y⟩ := y
    subst e y
    exact hs i σ _ hlt p
  · have e : i = n := by omega
    subst e
    exact .inl ⟨Nat.le_refl _, hd σ H p⟩
end L2

namespace L2
open PySem PySem.Spec PyProof.Rows

noncomputable abbrev R2 := V → V → Hp → VK → Prop
noncomputable def OpR (X : Cx) (f : Value → Value → Sem Value) (r : R2) : Prop :=
  ∀ (pins : List (Addr × Obj)) (s : Shared) (σ : St) (H : Hp) (x y : V) (v u : Value) (Q : VK), Inv X pins σ H s → RelV x v → RelV y u → r x y H Q →
    wpAny (model X.prog X.w) X.A (f v u) (EP X pins σ Q) X.xe s
noncomputable def CallR (X : Cx) (f : Value) (r : List V → Hp → VK → Prop) : Prop :=
  ∀ (pins : List (Addr × Obj)) (s : Shared) (σ : St) (H : Hp) (xs : List V) (us : List Value) (Q : VK), Inv X pins σ H s → Vals xs us → r xs H Q →
    wpAny (model X.prog X.w) X.A (call f us) (EP X pins σ Q) X.xe s
noncomputable def tOp (r : R2) (ta tb : TE) : TE := fun σ H Q => ta σ H fun x H1 => tb σ H1 fun y H2 => r x y H2 Q
noncomputable def rI (C : Int → Int → Prop) (g : Int → Int → V) : R2 := fun x y H Q => ∃ i j, x = .int i ∧ y = .int j ∧ C i j ∧ Q (g i j) H
noncomputable def rI0 (g : Int → Int → V) : R2 := fun x y H Q => ∃ i j, x = .int i ∧ y = .int j ∧ Q (g i j) H
section
variable {X : Cx} {a b c : Expr} {ta tb tc : TE} {pos : Pos}

theorem binT (ha : PE X a ta) (hb : PE X b tb) {pins : List (Addr × Obj)} {s : Shared} {σ : St} {H : Hp} {R : V → V → Hp → Prop} (I : Inv X pins σ H s)
    (h : ta σ H fun x H1 => tb σ H1 fun y H2 => R x y H2) {Q : Value → Shared → Prop} {f : Value → Value → Sem Value}
    (hf : ∀ v u s2 x y H2, Inv X pins σ H2 s2 → RelV x v → RelV y u → R x y H2 → wpAny (model X.prog X.w) X.A (f v u) Q X.xe s2) :
    wpAny (model X.prog X.w) X.A (eval a X.env) (fun v s₁ => wpAny (model X.prog X.w) X.A (eval b X.env) (fun u s₂ => wpAny (model X.prog X.w) X.A (f v u) Q X.xe s₂) X.xe s₁) X.xe s := by
  refine thn (ha pins s σ H _ I h) fun v s1 ⟨x, H1, I1, r1, q1⟩ => ?_
  refine thn (hb pins s1 σ H1 _ I1 q1) fun u s2 ⟨y, H2, I2, r2, q2⟩ => ?_
  exact hf v u s2 x y H2 I2 r1 r2 q2

theorem pe_op {op : Operator} {r : R2} (ho : OpR X (binaryOp op) r) (ha : PE X a ta) (hb : PE X b tb) : PE X (.BinOp a op b pos) (tOp r ta tb) := by
  intro pins s σ H Q I h
  exact wpAny_BinOp (binT ha hb I h fun v u s2 x y H2 I2 rx ry q => ho pins s2 σ H2 x y v u Q I2 rx ry q)
theorem opI {f : Value → Value → Sem Value} {C : Int → Int → Prop} {g : Int → Int → Int}
    (rule : ∀ (i j : Int) (t u : Tok) (s : Shared) (Q : Value → Shared → Prop) (E : Value → Shared → Prop), C i j → Q (.int (g i j) s.toks) { s with toks := s.toks + 1 } → wpAny (model X.prog X.w) X.A (f (.int i t) (.int j u)) Q E s) :
    OpR X f (rI C fun i j => .int (g i j)) := by
  intro pins s σ H x y v u Q I rx ry h
  obtain ⟨i, j, rfl, rfl, hc, q⟩ := h
  obtain ⟨t, rfl⟩ := rx
  obtain ⟨t', rfl⟩ := ry
  exact rule i j t t' s _ _ hc ⟨.int (g i j), H, I.tok _, ⟨_, rfl⟩, q⟩
theorem opI0 {f : Value → Value → Sem Value} {g : Int → Int → Int}
    (rule : ∀ (i j : Int) (t u : Tok) (s : Shared) (Q : Value → Shared → Prop) (E : Value → Shared → Prop), Q (.int (g i j) s.toks) { s with toks := s.toks + 1 } → wpAny (model X.prog X.w) X.A (f (.int i t) (.int j u)) Q E s) :
    OpR X f (rI0 fun i j => .int (g i j)) := by
  intro pins s σ H x y v u Q I rx ry h
  obtain ⟨i, j, rfl, rfl, q⟩ := h
  obtain ⟨t, rfl⟩ := rx
  obtain ⟨t', rfl⟩ := ry
  exact rule i j t t' s _ _ ⟨.int (g i j), H, I.tok _, ⟨_, rfl⟩, q⟩
theorem opB0 {f : Value → Value → Sem Value} {g : Int → Int → Bool}
    (rule : ∀ (i j : Int) (t u : Tok) (s : Shared) (Q : Value → Shared → Prop) (E : Value → Shared → Prop), Q (.bool (g i j)) s → wpAny (model X.prog X.w) X.A (f (.int i t) (.int j u)) Q E s) :
    OpR X f (rI0 fun i j => .bl (g i j)) := by
  intro pins s σ H x y v u Q I rx ry h
  obtain ⟨i, j, rfl, rfl, q⟩ := h
  obtain ⟨t, rfl⟩ := rx
  obtain ⟨t', rfl⟩ := ry
  exact rule i j t t' s _ _ ⟨.bl (g i j), H, I, rfl, q⟩

noncomputable def CDiv (i j : Int) : Prop := 0 < j ∧ j < 1073741824
noncomputable def CMul (i j : Int) : Prop := (-(2 ^ 64) < i ∧ i < 2 ^ 64) ∨ (-(2 ^ 64) < j ∧ j < 2 ^ 64)
theorem CMul.ok {i j : Int} (h : CMul i j) : IntMulOk i j := by
  rcases h with ⟨h1, h2⟩ | ⟨h1, h2⟩
  · exact .of_left (intBits_le_64 h1 h2)
  · exact .of_right (intBits_le_64 h1 h2)
theorem op_add : OpR X (binaryOp .Add) (rI0 fun i j => .int (i + j)) := opI0 fun _ _ _ _ _ _ _ q => add_int q
theorem op_mul : OpR X (binaryOp .Mult) (rI CMul fun i j => .int (i * j)) := opI fun _ _ _ _ _ _ _ hc q => mul_int q hc.ok
theorem op_fdiv : OpR X (binaryOp .FloorDiv) (rI CDiv fun i j => .int (i / j)) := opI fun i j _ _ _ _ _ hc q => by
  have h1 : (0 : Int) < j := hc.1
  have h2 : j < 1073741824 := hc.2
  exact floordiv_int (by omega) (by rw [Int.fdiv_eq_ediv_of_nonneg i (by omega)]; exact q) (.inl (PyProof.noPylong_small (by omega)))
theorem op_mod : OpR X (binaryOp .Mod) (rI (fun _ j => 0 < j) fun i j => .int (i % j)) := opI fun i j _ _ _ _ _ hc q => by
  have h1 : (0 : Int) < j := hc
  exact mod_int' (by omega) (by rw [Int.fmod_eq_emod_of_nonneg i (by omega)]; exact q)
end

noncomputable def scal : V → V → Bool
  | .non, .non => true | .non, .int _ => true | .int _, .non => true | .non, .bl _ => true | .bl _, .non => true | .non, .str _ => true | .str _, .non => true
  | .int _, .int _ => true | .bl _, .bl _ => true | .str _, .str _ => true | .byt _, .byt _ => true
  | .int _, .str _ => true | .str _, .int _ => true | .bl _, .str _ => true | .str _, .bl _ => true
  | _, _ => false
noncomputable def rEq : R2 := fun x y H Q => scal x y = true ∧ Q (.bl (decide (x = y))) H
noncomputable def rNe : R2 := fun x y H Q => scal x y = true ∧ Q (.bl (!decide (x = y))) H

theorem dec_int {i j : Int} : decide (V.int i = V.int j) = (i == j) := by
  rw [Bool.eq_iff_iff]
  simp
theorem dec_bl {i j : Bool} : decide (V.bl i = V.bl j) = (i == j) := by
  rw [Bool.eq_iff_iff]
  simp
theorem dec_str {i j : Str} : decide (V.str i = V.str j) = (i == j) := by
  rw [Bool.eq_iff_iff]
  simp
theorem dec_byt {i j : Array UInt8} : decide (V.byt i = V.byt j) = (i.toList == j.toList) := by
  rw [Bool.eq_iff_iff]
  cases i
  cases j
  simp

section
variable {X : Cx} {a b c : Expr} {ta tb tc : TE} {pos : Pos}
theorem fin_bl {pins : List (Addr × Obj)} {σ : St} {H : Hp} {s : Shared} {Q : VK} {k k' : Bool} (I : Inv X pins σ H s) (q : Q (.bl k) H) (e : k = k') : EP X pins σ Q (.bool k') s := by
  subst e
  exact ⟨.bl k, H, I, rfl, q⟩
theorem op_eq : OpR X (compareOp .Eq) rEq := by
  intro pins s σ H x y v u Q I rx ry h
  obtain ⟨hs, q⟩ := h
  cases x with
  | non =>
    cases rx
    cases y with
    | non => cases ry; exact PySem.EqNone.eq_none_none (fin_bl I q (by simp))
    | bl j => cases ry; exact PySem.EqNone.eq_none_bool (fin_bl I q (by simp))
    | int j => obtain ⟨t', rfl⟩ := ry; exact PySem.EqNone.eq_none_int (fin_bl I q (by simp))
    | str j => obtain ⟨t', rfl⟩ := ry; exact PySem.EqNone.eq_none_str (fin_bl I q (by simp))
    | _ => exact absurd (show false = true from hs) Bool.false_ne_true
  | bl i =>
    cases rx
    cases y with
    | non => cases ry; exact PySem.EqNone.eq_bool_none (fin_bl I q (by simp))
    | bl j => cases ry; exact eq_bool (fin_bl I q dec_bl)
    | str j => obtain ⟨t', rfl⟩ := ry; exact PySem.EqMixed.eq_bool_str (fin_bl I q (by simp))
    | _ => exact absurd (show false = true from hs) Bool.false_ne_true
  | int i =>
    obtain ⟨t, rfl⟩ := rx
    cases y with
    | non => cases ry; exact PySem.EqNone.eq_int_none (fin_bl I q (by simp))
    | int j => obtain ⟨t', rfl⟩ := ry; exact eq_int (fin_bl I q dec_int)
    | str j => obtain ⟨t', rfl⟩ := ry; exact PySem.EqMixed.eq_int_str (fin_bl I q (by simp))
    | _ => exact absurd (show false = true from hs) Bool.false_ne_true
  | str i =>
    obtain ⟨t, rfl⟩ := rx
    cases y with
    | non => cases ry; exact PySem.EqNone.eq_str_none (fin_bl I q (by simp))
    | bl j => cases ry; exact PySem.EqMixed.eq_str_bool (fin_bl I q (by simp))
    | int j => obtain ⟨t', rfl⟩ := ry; exact PySem.EqMixed.eq_str_int (fin_bl I q (by simp))
    | str j => obtain ⟨t', rfl⟩ := ry; exact eq_str (fin_bl I q dec_str)
    | _ => exact absurd (show false = true from hs) Bool.false_ne_true
  | byt i =>
    obtain ⟨t, rfl⟩ := rx
    cases y with
    | byt j => obtain ⟨t', rfl⟩ := ry; exact PySem.W.eq_bytes (fin_bl I q dec_byt)
    | _ => exact absurd (show false = true from hs) Bool.false_ne_true
  | _ => cases y <;> exact absurd (show false = true from hs) Bool.false_ne_true
theorem op_ne : OpR X (compareOp .NotEq) rNe := by
  intro pins s σ H x y v u Q I rx ry h
  obtain ⟨hs, q⟩ := h
  cases x with
  | non =>
    cases rx
    cases y with
    | non => cases ry; exact PySem.EqNone.ne_none_none (fin_bl I q (by simp))
    | bl j => cases ry; exact PySem.EqNone.ne_none_bool (fin_bl I q (by simp))
    | int j => obtain ⟨t', rfl⟩ := ry; exact PySem.EqNone.ne_none_int (fin_bl I q (by simp))
    | str j => obtain ⟨t', rfl⟩ := ry; exact PySem.EqNone.ne_none_str (fin_bl I q (by simp))
    | _ => exact absurd (show false = true from hs) Bool.false_ne_true
  | bl i =>
    cases rx
    cases y with
    | non => cases ry; exact PySem.EqNone.ne_bool_none (fin_bl I q (by simp))
    | bl j => cases ry; exact ne_bool (fin_bl I q (congrArg not dec_bl))
    | str j => obtain ⟨t', rfl⟩ := ry; exact PySem.EqMixed.ne_bool_str (fin_bl I q (by simp))
    | _ => exact absurd (show false = true from hs) Bool.false_ne_true
  | int i =>
    obtain ⟨t, rfl⟩ := rx
    cases y with
    | non => cases ry; exact PySem.EqNone.ne_int_none (fin_bl I q (by simp))
    | int j => obtain ⟨t', rfl⟩ := ry; exact ne_int (fin_bl I q (congrArg not dec_int))
    | str j => obtain ⟨t', rfl⟩ := ry; exact PySem.EqMixed.ne_int_str (fin_bl I q (by simp))
    | _ => exact absurd (show false = true from hs) Bool.false_ne_true
  | str i =>
    obtain ⟨t, rfl⟩ := rx
    cases y with
    | non => cases ry; exact PySem.EqNone.ne_str_none (fin_bl I q (by simp))
    | bl j => cases ry; exact PySem.EqMixed.ne_str_bool (fin_bl I q (by simp))
    | int j => obtain ⟨t', rfl⟩ := ry; exact PySem.EqMixed.ne_str_int (fin_bl I q (by simp))
    | str j => obtain ⟨t', rfl⟩ := ry; exact ne_str (fin_bl I q (congrArg not dec_str))
    | _ => exact absurd (show false = true from hs) Bool.false_ne_true
  | byt i =>
    obtain ⟨t, rfl⟩ := rx
    cases y with
    | byt j => obtain ⟨t', rfl⟩ := ry; exact PySem.W.ne_bytes (fin_bl I q (congrArg not dec_byt))
    | _ => exact absurd (show false = true from hs) Bool.false_ne_true
  | _ => cases y <;> exact absurd (show false = true from hs) Bool.false_ne_true

theorem op_lt : OpR X (compareOp .Lt) (rI0 fun i j => .bl (decide (i < j))) := opB0 fun _ _ _ _ _ _ _ q => lt_int q
theorem op_gt : OpR X (compareOp .Gt) (rI0 fun i j => .bl (decide (j < i))) := opB0 fun _ _ _ _ _ _ _ q => gt_int q
theorem op_in_str : OpR X (compareOp .In) (fun x y H Q => ∃ i j, x = .str i ∧ y = .str j ∧ Q (.bl (!(Builtin.Str.occurrences j i 0 j.length 1).isEmpty)) H) := by
  intro pins s σ H x y v u Q I rx ry h
  obtain ⟨i, j, rfl, rfl, q⟩ := h
  obtain ⟨t, rfl⟩ := rx
  obtain ⟨t', rfl⟩ := ry
  exact in_str (fin_bl I q rfl)

theorem op_isN : OpR X (compareOp .Is) (fun x y H Q => y = .non ∧ Q (.bl (decide (x = .non))) H) := by
  intro pins s σ H x y v u Q I rx ry h
  obtain ⟨rfl, q⟩ := h
  cases ry
  refine is_none_gen (fin_bl I q ?_)
  cases x <;> first
    | (cases rx; rfl)
    | (obtain ⟨t, rfl⟩ := rx; rfl)
theorem nomark (b : Expr) {op : CmpOp} (h : op ≠ .In := by decide) (h2 : op ≠ .NotIn := by decide) : behindInMarks op b = false := by
  have e1 : (op == CmpOp.In) = false := by cases op <;> first | rfl | exact absurd rfl h
  have e2 : (op == CmpOp.NotIn) = false := by cases op <;> first | rfl | exact absurd rfl h2
  cases b <;> simp [behindInMarks, e1, e2]
theorem pe_cmpR {op : CmpOp} {r : R2} (ho : OpR X (compareOp op) r) (ha : PE X a ta) (hb : PE X b tb) (hm : behindInMarks op b = false) : PE X (.Compare a [op] [b] pos) (tOp r ta tb) := by
  intro pins s σ H Q I h
  exact wpAny_Compare1 (binT ha hb I h fun v u s2 x y H2 I2 rx ry q => ho pins s2 σ H2 x y v u Q I2 rx ry q) hm
noncomputable def tTest (t : TE) : TT := fun σ H Q => t σ H fun x H1 => RB x H1 Q
theorem pt_cmpR {op : CmpOp} {r : R2} (ho : OpR X (compareOp op) r) (ha : PE X a ta) (hb : PE X b tb) (hm : behindInMarks op b = false) : PT X (.Compare a [op] [b] pos) (tTest (tOp r ta tb)) := by
  intro pins s σ H Q I h
  refine wpAny_isTrue_Compare1 (thn (ha pins s σ H _ I h) fun v s1 ⟨x, H1, I1, r1, q1⟩ => thn (hb pins s1 σ H1 _ I1 q1) fun u s2 ⟨y, H2, I2, r2, q2⟩ =>
    thn (ho pins s2 σ H2 x y v u _ I2 r1 r2 q2) fun c s3 ⟨z, H3, I3, r3, k, e, q3⟩ => ?_) hm
  subst e
  cases r3
  exact wpAny_truthy_bool ⟨H3, I3, q3⟩
theorem line63 : (sizeLine : Nat) < 2 ^ 63 := by rw [sizeLine_eq]; decide
theorem op_add_str : OpR X (binaryOp .Add) (fun x y H Q => ∃ i j, x = .str i ∧ y = .str j ∧ i.length + j.length ≤ sizeLine ∧ Q (.str (i ++ j)) H) := by
  intro pins s σ H x y v u Q I rx ry h
  obtain ⟨i, j, rfl, rfl, hz, q⟩ := h
  obtain ⟨t, rfl⟩ := rx
  obtain ⟨t', rfl⟩ := ry
  exact add_str (fun t' tk => ⟨.str (i ++ j), H, I.tok _, ⟨_, rfl⟩, q⟩) hz
theorem vals1 {x : V} {us : List Value} (r : Vals [x] us) : ∃ u, us = [u] ∧ RelV x u := by
  cases r with
  | cons r1 r2 => cases r2; exact ⟨_, rfl, r1⟩
theorem vals2 {x y : V} {us : List Value} (r : Vals [x, y] us) : ∃ u w', us = [u, w'] ∧ RelV x u ∧ RelV y w' := by
  cases r with
  | cons r1 r2 =>
    cases r2 with
    | cons r3 r4 => cases r4; exact ⟨_, _, rfl, r1, r3⟩
end
end L2

namespace L2
open PySem PySem.Spec PyProof.Rows

set_option genInjectivity false in
set_option genSizeOf false in
structure ObjM (h : Heap) (x dx C : Addr) (mA : Str → Option Value) : Prop where
  obj : h.get? x = some (PySem.W.instObj C dx)
  ns : h.Ns1 dx mA
  ne : dx ≠ x

theorem lookIn_ns {h : Heap} {dx : Addr} {mA : Str → Option Value} (n : h.Ns1 dx mA) : ∃ od, h.get? dx = some od ∧ ∀ name, PySem.W.lookIn name od = some (mA name) := by
  obtain ⟨o, es, ep, ho, hd, hk, _, hm⟩ := n
  refine ⟨o, ho, fun name => ?_⟩
  have e := hm name
  unfold nsFind findBy at e
  rw [← Array.find?_toList] at e
  unfold PySem.W.lookIn
  rw [hd]
  dsimp only
  split
  · rename_i y q
    rw [q] at e
    exact congrArg some e
  · rename_i q
    rw [q] at e
    have a : es.toList.any (·.refKey) = false := by
      rw [List.any_eq_false]
      intro y hy
      obtain ⟨z, t, hkey⟩ := hk y (Array.mem_toList_iff.mp hy)
      simp [DictEntry.refKey, hkey]
    have a' : ¬ es.toList.any (·.refKey) = true := by rw [a]; exact Bool.false_ne_true
    rw [if_neg a']
    exact congrArg some e

theorem ObjM.look {h : Heap} {x dx C : Addr} {mA : Str → Option Value} (I : ObjM h x dx C mA) : ∃ od, PySem.W.InstAt h x (PySem.W.instObj C dx) C (some od) ∧ ∀ name, PySem.W.lookIn name od = some (mA name) :=
  let ⟨od, ho, hl⟩ := lookIn_ns I.ns
  ⟨od, ⟨I.obj, rfl, rfl, ho⟩, hl⟩

section
variable {prog : Program} {w : World} {A : Around} {E : Value → Shared → Prop} {s : Shared} {K : PySem.W.Frag} {x dx C f : Addr} {mA : Str → Option Value} {name : Str} {v : Value}

theorem get_map {expr : Bool} {Q : Value → Shared → Prop} (X : K.In s.heap) (I : ObjM s.heap x dx C mA) (hg : PySem.W.plainGet K C name = true) (hh : PySem.W.hasDictIn K C = true)
    (ha : PySem.W.findIn K (.ref C) name = some none) (hv : mA name = some v) (hv' : PySem.W.handedIn v = true) (h : Q v { s with toks := s.toks + 1 }) :
    wpAny (model prog w) A (getAttr (.ref x) name expr) Q E s := by
  obtain ⟨od, J, hl⟩ := I.look
  exact PySem.W.get_value X J (PySem.W.plainGet_of hg).1 (PySem.W.findObj_own hh ha rfl (by rw [hl, hv])) hv' h

theorem get_meth {pl : Sem Bool} {Q : Value × List Value → Shared → Prop} (X : K.In s.heap) (I : ObjM s.heap x dx C mA) (hg : PySem.W.plainGet K C name = true)
    (hf : PySem.W.findIn K (.ref C) name = some (some (.ref f))) (ht : PySem.W.isFn K (.ref f) = true) (hv : mA name = none) (h : Q (.ref f, [.ref x]) s) :
    wpAny (model prog w) A (getMethod (.ref x) name pl) Q E s := by
  obtain ⟨od, J, hl⟩ := I.look
  exact PySem.W.method_fn X J (PySem.W.plainGet_of hg).1 (PySem.W.plainGet_of hg).2 hf (beq_iff_eq.mp ht) (by show (PySem.W.lookIn name od).map (·.isSome) = some false; rw [hl, hv]; rfl) h

theorem set_map {ns : List Str} {Q : Unit → Shared → Prop} (X : K.In s.heap) (I : ObjM s.heap x dx C mA)
    (hs : PySem.W.findIn K (.ref C) "__setattr__" = some (some (.builtin "object.__setattr__"))) (hp : PySem.W.plainOver K C = true) (ht : PySem.W.takerIn K C name = some none) (hh : PySem.W.hasDictIn K C = true)
    (hw : PySem.Within mA ns) (hsz : ns.length ≤ sizeLine)
    (h : ∀ h', ObjM h' x dx C (fun y => if y = name then some v else mA y) → Heap.SameBut dx s.heap h' → Q () { s with heap := h', toks := s.toks + 2 }) :
    wpAny (model prog w) A (setAttr (.ref x) name v) Q E s := by
  obtain ⟨od, J, hl⟩ := I.look
  refine PySem.W.set_plain X J hs (PySem.W.osa_open (s := { s with toks := s.toks + 1 }) (r := none) X J hp ht fun b => ?_)
  obtain ⟨cd, hc, hd'⟩ := PySem.W.any_some hh
  have hx : s.heap.get? x = some ⟨.ref C, some dx, .plain, #[]⟩ := I.obj
  refine wpAny_bind (wpAny_pure (wpAny_bind (wpAny_bind (wpAny_loadPart hx (wpAny_bind (PySem.W.Looks.here (s := { s with toks := s.toks + 1 }) (PySem.W.looks_clsIn X hc) ?_))))))
  rw [hd']
  refine wpAny_pure (a := some dx) (wpAny_bind (wpAny_pure (wpAny_bind ?_)))
  refine wpAny_nsSet1 (s := { s with toks := s.toks + 1 }) I.ns fun h' hn2 hs2 => ?_
  obtain ⟨oD, esD, epD, hoD, hdD, hcD⟩ := hn2.count (PySem.Within.cons name v hw)
  refine wpAny_bind (wpAny_lookBehind hoD (by rw [hdD]; exact pastItsLine_dict (Nat.le_trans hcD (by rw [List.length_cons]; omega))) ?_)
  exact wpAny_pure (h _ ⟨(hs2.2 _ (Ne.symm I.ne)).trans I.obj, hn2, I.ne⟩ hs2)

theorem make_map {R : Result → Shared → Prop} {vs : List Value} {kw : List (Str × Value)} (X : K.In s.heap) (hm : PySem.W.makesIn K C = true)
    (hi : PySem.W.findIn K (.ref C) "__init__" = some (some (.ref f))) (hf : PySem.W.typeIn K (.ref f) = some (.type "function"))
    (h : codeAny (model prog w) (A.under (.builtin "type.__call__" ⟨.ref C :: vs, kw⟩)) (.call (.ref f) ⟨.ref (s.heap.objs.size + 1) :: vs, kw⟩) (PySem.W.InitBack (s.heap.objs.size + 1) R)
      { s with heap := (s.heap.push PySem.W.emptyDict).push (PySem.W.instObj C s.heap.objs.size) }) :
    codeAny (model prog w) A (.call (.ref C) ⟨vs, kw⟩) R s := by
  obtain ⟨hh, g, d, t, os⟩ := s
  exact PySem.W.make_core (PySem.W.makes_of X hm) (PySem.W.looks_findIn X hi) (fun self => PySem.W.bind_fn X self hf) (.inl rfl) h
end

noncomputable def putF (f : Str) (v : V) : List (Str × V) → List (Str × V)
  | [] => [(f, v)]
  | (g, x) :: r => if g = f then (g, v) :: r else (g, x) :: putF f v r
theorem lookup_putF (f g : Str) (v : V) : ∀ fs : List (Str × V), (putF f v fs).lookup g = if g = f then some v else fs.lookup g
  | [] => by
    show List.lookup g [(f, v)] = _
    by_cases h : g = f
    · have hb : (g == f) = true := beq_iff_eq.mpr h
      simp only [List.lookup, hb, if_pos h]
    · have hb : (g == f) = false := beq_eq_false_iff_ne.mpr h
      simp only [List.lookup, hb, if_neg h]
  | (k, x) :: r => by
    have ih := lookup_putF f g v r
    rw [show putF f v ((k, x) :: r) = (if k = f then (k, v) :: r else (k, x) :: putF f v r) from rfl]
    by_cases hk : k = f
    · rw [if_pos hk]
      by_cases h : g = k
      · have hb : (g == k) = true := beq_iff_eq.mpr h
        simp only [List.lookup, hb, if_pos (h.trans hk)]
      · have hb : (g == k) = false := beq_eq_false_iff_ne.mpr h
        simp only [List.lookup, hb, if_neg (fun e : g = f => h (e.trans hk.symm))]
    · rw [if_neg hk]
      by_cases h : g = k
      · have hb : (g == k) = true := beq_iff_eq.mpr h
        simp only [List.lookup, hb, if_neg (fun e : g = f => hk (h.symm.trans e))]
      · have hb : (g == k) = false := beq_eq_false_iff_ne.mpr h
        simp only [List.lookup, hb]
        exact ih
theorem keys_putF (f : Str) (v : V) : ∀ fs : List (Str × V), f ∈ (putF f v fs).map (·.1) ∧ ∀ g, g ∈ fs.map (·.1) → g ∈ (putF f v fs).map (·.1)
  | [] => ⟨by simp [putF], fun g h => by simp at h⟩
  | (k, x) :: r => by
    obtain ⟨i1, i2⟩ := keys_putF f v r
    rw [show putF f v ((k, x) :: r) = (if k = f then (k, v) :: r else (k, x) :: putF f v r) from rfl]
    by_cases hk : k = f
    · rw [if_pos hk]
      subst hk
      exact ⟨by simp, fun g h => by simpa using h⟩
    · rw [if_neg hk]
      refine ⟨?_, fun g h => ?_⟩
      · rw [List.map_cons]
        exact List.mem_cons_of_mem _ i1
      · rw [List.map_cons] at h ⊢
        rcases List.mem_cons.mp h with e | e
        · exact List.mem_cons.mpr (.inl e)
        · exact List.mem_cons_of_mem _ (i2 g e)
theorem length_putF (f : Str) (v : V) : ∀ fs : List (Str × V), (putF f v fs).length ≤ fs.length + 1
  | [] => by simp [putF]
  | (k, x) :: r => by
    have ih := length_putF f v r
    rw [show putF f v ((k, x) :: r) = (if k = f then (k, v) :: r else (k, x) :: putF f v r) from rfl]
    by_cases hk : k = f
    · rw [if_pos hk, List.length_cons, List.length_cons]; omega
    · rw [if_neg hk, List.length_cons, List.length_cons]; omega

theorem RelO.some_of {v : V} {o : Option Value} (r : RelO (some v) o) : ∃ u, o = some u ∧ RelV v u := by
  cases o with
  | none => exact (show False from r).elim
  | some u => exact ⟨u, rfl, r⟩
theorem RelO.none_of {o : Option Value} (r : RelO none o) : o = none := by
  cases o with
  | none => rfl
  | some u => exact (show False from r).elim
theorem handed_of {v : V} {u : Value} (r : RelV v u) : PySem.W.handedIn u = true := by
  cases v with
  | non => cases (show u = Value.none from r); rfl
  | bl b => cases (show u = Value.bool b from r); rfl
  | int i => obtain ⟨t, e⟩ := (show ∃ t, u = Value.int i t from r); cases e; rfl
  | str x => obtain ⟨t, e⟩ := (show ∃ t, u = Value.str x t from r); cases e; rfl
  | byt b => obtain ⟨t, e⟩ := (show ∃ t, u = Value.bytes b t from r); cases e; rfl
  | flt b => obtain ⟨t, e⟩ := (show ∃ t, u = Value.float b t from r); cases e; rfl
  | ref a => cases (show u = Value.ref a from r); rfl
  | ty n => cases (show u = Value.type n from r); rfl

section
variable {P : Program} {w : World} {H H' : Hp} {h h' : Heap} {a C dx : Addr} {fs fs' : List (Str × V)}
theorem ins_get (hok : HOk P w H h) (e : H a = some (.ins C dx fs)) : ∃ mA, ObjM h a dx C mA ∧ (∀ f, RelO (fs.lookup f) (mA f)) ∧ PySem.Within mA (fs.map (·.1)) ∧ fs.length ≤ 1000 ∧ H dx = some (.own a) := by
  obtain ⟨d, z, ne, ob, mA, n, r, q⟩ := (show ObjOk P w H h a (.ins C dx fs) from hok a _ e)
  exact ⟨mA, ⟨ob, n, ne⟩, r, q, z, d⟩
end

set_option genInjectivity false in
set_option genSizeOf false in
structure Cls (K : PySem.W.Frag) (C : Addr) : Prop where
  pg : PySem.W.plainGet K C Str.empty = true
  hd : PySem.W.hasDictIn K C = true
  po : PySem.W.plainOver K C = true
  sa : PySem.W.findIn K (.ref C) "__setattr__" = some (some (.builtin "object.__setattr__"))
theorem Cls.get {K : PySem.W.Frag} {C : Addr} (c : Cls K C) (f : Str) : PySem.W.plainGet K C f = true := c.pg
noncomputable def NoAttr (K : PySem.W.Frag) (C : Addr) (f : Str) : Prop := PySem.W.findIn K (.ref C) f = some none
theorem NoAttr.taker {K : PySem.W.Frag} {C : Addr} {f : Str} (n : NoAttr K C f) : PySem.W.takerIn K C f = some none := by
  unfold PySem.W.takerIn
  rw [show PySem.W.findIn K (.ref C) f = some none from n]
  rfl
set_option genInjectivity false in
set_option genSizeOf false in
structure Meth (K : PySem.W.Frag) (C : Addr) (m : Str) (f : Addr) : Prop where
  at_ : PySem.W.findIn K (.ref C) m = some (some (.ref f))
  fn : PySem.W.isFn K (.ref f) = true
  kp : PySem.W.keepIn K (.ref f) = true

section
variable {X : Cx} {pins : List (Addr × Obj)} {σ : St} {H : Hp} {s : Shared} {a C dx : Addr} {fs : List (Str × V)} {f : Str} {v : V} {A : Around} {E : Value → Shared → Prop}

theorem getattr_ok {b : Bool} {Q : Value → Shared → Prop} (I : Inv X pins σ H s) (e : H a = some (.ins C dx fs)) (c : Cls X.K C) (n : NoAttr X.K C f) (l : fs.lookup f = some v)
    (h : ∀ u s', Inv X pins σ H s' → RelV v u → Q u s') : wpAny (model X.prog X.w) A (getAttr (.ref a) f b) Q E s := by
  obtain ⟨mA, O, r, _, _, _⟩ := ins_get I.hok e
  obtain ⟨u, hu, ru⟩ := RelO.some_of (v := v) (o := mA f) (by rw [← l]; exact r f)
  exact get_map I.kIn O (c.get f) c.hd n hu (handed_of ru) (h u _ (I.tok _) ru)

theorem getmeth_ok {m : Str} {g : Addr} {pl : Sem Bool} {Q : Value × List Value → Shared → Prop} (I : Inv X pins σ H s) (e : H a = some (.ins C dx fs)) (c : Cls X.K C) (k : Meth X.K C m g) (l : fs.lookup m = none)
    (h : Q (.ref g, [.ref a]) s) : wpAny (model X.prog X.w) A (getMethod (.ref a) m pl) Q E s := by
  obtain ⟨mA, O, r, _, _, _⟩ := ins_get I.hok e
  have hn : mA m = none := RelO.none_of (by rw [← l]; exact r m)
  exact get_meth I.kIn O (c.get m) k.at_ k.fn hn h

theorem setattr_ok {y : V} {u : Value} {Q : Unit → Shared → Prop} (I : Inv X pins σ H s) (e : H a = some (.ins C dx fs)) (c : Cls X.K C) (n : NoAttr X.K C f) (hl : fs.length < 1000) (ry : RelV y u)
    (h : ∀ s', Inv X pins σ (upd H a (.ins C dx (putF f y fs))) s' → Q () s') : wpAny (model X.prog X.w) A (setAttr (.ref a) f u) Q E s := by
  obtain ⟨mA, O, r, wi, _, ho⟩ := ins_get I.hok e
  have hz : (fs.map (·.1)).length ≤ sizeLine := by rw [List.length_map, sizeLine_eq]; omega
  refine set_map I.kIn O c.sa c.po n.taker c.hd wi hz fun h' O' sb => h _ ?_
  have hd : ∃ o, h'.get? dx = some o := let ⟨o, _, _, e', _⟩ := O'.ns; ⟨o, e'⟩
  refine I.write (x := a) (e := dx) (by rw [e]; exact True.intro) (.inr ho) (fun b q hb z => (sb.2 b hb).trans z) hd ?_
  refine ⟨by rw [upd_ne O.ne]; exact ho, ?_, O.ne, O'.obj, _, O'.ns, fun g => ?_, fun g hg => ?_⟩
  · have := length_putF f y fs; omega
  · show RelO ((putF f y fs).lookup g) (if g = f then some u else mA g)
    rw [lookup_putF]
    by_cases q : g = f
    · rw [if_pos q, if_pos q]; exact ry
    · rw [if_neg q, if_neg q]; exact r g
  · by_cases q : g = f
    · rw [q]; exact (keys_putF f y fs).1
    · refine (keys_putF f y fs).2 g (wi g fun z => hg ?_)
      show (if g = f then some u else mA g) = none
      rw [if_neg q]; exact z

theorem Inv.made (I : Inv X pins σ H s) : Inv X pins σ (upd (upd H s.heap.objs.size (.own (s.heap.objs.size + 1))) (s.heap.objs.size + 1) (.ins C s.heap.objs.size []))
    { s with heap := (s.heap.push PySem.W.emptyDict).push (PySem.W.instObj C s.heap.objs.size) } := by
  have e1 : (s.heap.push PySem.W.emptyDict).get? s.heap.objs.size = some PySem.W.emptyDict := Heap.get?_push_size s.heap rfl
  have e2 : ((s.heap.push PySem.W.emptyDict).push (PySem.W.instObj C s.heap.objs.size)).get? (s.heap.objs.size + 1) = some (PySem.W.instObj C s.heap.objs.size) := by
    have := Heap.get?_push_size (s.heap.push PySem.W.emptyDict) (o := PySem.W.instObj C s.heap.objs.size) rfl
    rwa [Heap.size_push] at this
  have e3 : (s.heap.push PySem.W.emptyDict).Ns s.heap.objs.size (fun _ => none) := ⟨PySem.W.emptyDict, #[], _, e1, rfl, (fun e he => absurd he (by simp)), fun _ => rfl⟩
  have I1 := I.laid (a := s.heap.objs.size) (o := .own (s.heap.objs.size + 1)) (h' := s.heap.push PySem.W.emptyDict) (t' := s.toks) (fun b u q => Heap.get?_push_of_some _ q) (Nat.le_refl _) ⟨_, e1⟩
  refine I1.laid (a := s.heap.objs.size + 1) (o := .ins C s.heap.objs.size []) (t' := s.toks) (fun b u q => Heap.get?_push_of_some _ q) (Nat.le_of_eq (Heap.size_push _ _)) ?_
  have ne : s.heap.objs.size ≠ s.heap.objs.size + 1 := Nat.ne_of_lt (Nat.lt_succ_self _)
  refine ⟨by rw [upd_ne ne, upd_same], Nat.zero_le _, ne, e2, fun _ => none, (Heap.Ns1.of_empty e3).at fun o q => Heap.get?_push_of_some _ q, fun _ => True.intro, fun y hy => absurd rfl hy⟩

theorem attr_of {prog : Program} {w : World} {env : Env} {e : Expr} {f : Str} {pos : Pos} {s : Shared} {Q : Value → Shared → Prop} (hb : attributeBase e f env (eval e env) = eval e env)
    (h : wpAny (model prog w) A (eval e env) (fun o s₁ => wpAny (model prog w) A (getAttr o f true) Q E s₁) E s) : wpAny (model prog w) A (eval (.Attribute e f pos) env) Q E s :=
  Attribute_any_ h (by rw [arm_eval_Attribute, hb])
end

noncomputable def tFld (K : PySem.W.Frag) (ta : TE) (f : Str) : TE := fun σ H Q => ta σ H fun x H1 => ∃ a C dx fs v, x = .ref a ∧ H1 a = some (.ins C dx fs) ∧ Cls K C ∧ NoAttr K C f ∧ fs.lookup f = some v ∧ Q v H1
noncomputable def sFld (K : PySem.W.Frag) (ta tv : TE) (f : Str) : TS := fun D σ H => tv σ H fun y H1 => ta σ H1 fun x H2 => ∃ a C dx fs, x = .ref a ∧ H2 a = some (.ins C dx fs) ∧ Cls K C ∧ NoAttr K C f ∧ fs.length < 1000 ∧
  D.nx σ (upd H2 a (.ins C dx (putF f y fs)))
section
variable {X : Cx} {o e value : Expr} {f : Str} {pos pos' tpos : Pos} {ta tv : TE}
theorem pe_fld (he : PE X e ta) (hb : attributeBase e f X.env (eval e X.env) = eval e X.env) : PE X (.Attribute e f pos) (tFld X.K ta f) := by
  intro pins s σ H Q I h
  refine attr_of hb (thn (he pins s σ H _ I h) fun u s1 ⟨x, H1, I1, rx, a, C, dx, fs, v, ex, ea, c, n, l, q⟩ => ?_)
  subst ex
  obtain rfl : u = Value.ref a := rx
  exact getattr_ok I1 ea c n l fun u' s2 I2 ru => ⟨v, H1, I2, ru, q⟩
theorem ps_fld (ha : PE X o ta) (hv : PE X value tv) (hs : swapsWith value (some (.Attribute o f pos')) pos.line X.env = pure false) : PS X (.Assign [.Attribute o f pos'] value pos) (sFld X.K ta tv f) := by
  intro pins s σ H D I h
  refine plainObj_wpAny_Assign_Attribute (thn (hv pins s σ H _ I h) fun u s1 ⟨y, H1, I1, ry, q⟩ => thn (ha pins s1 σ H1 _ I1 q) fun ov s2 ⟨x, H2, I2, rx, a, C, dx, fs, ex, ea, c, n, l, q2⟩ => ?_) hs
  subst ex
  obtain rfl : ov = Value.ref a := rx
  exact setattr_ok I2 ea c n l ry fun s3 I3 => ⟨σ, _, I3, q2⟩
theorem methcall_of {pl : Sem Bool} {m : Str} {apos : Pos} {args : List Expr} {pins : List (Addr × Obj)} {s : Shared} {σ : St} {H : Hp} {Q : Value → Shared → Prop} {te : TE} (he : PE X e te) (I : Inv X pins σ H s)
    (h : te σ H fun x H1 => ∃ a C dx fs g, x = .ref a ∧ H1 a = some (.ins C dx fs) ∧ Cls X.K C ∧ Meth X.K C m g ∧ fs.lookup m = none ∧
      ∀ s1, Inv X pins σ H1 s1 → wpAny (model X.prog X.w) X.A (callWith pos (.ref g) [.ref a] (backTo pos (starEach args X.env)) (backToKw pos (keywordEach [] X.env))) Q X.xe s1)
    (ht : eval (.Call (.Attribute e m apos) args [] pos) X.env = (do
      let ov ← eval e X.env
      standAt apos.atName
      let (f, first) ← holding [ov] (getMethod ov m pl)
      callWith pos f first (backTo pos (starEach args X.env)) (backToKw pos (keywordEach [] X.env)))) :
    wpAny (model X.prog X.w) X.A (eval (.Call (.Attribute e m apos) args [] pos) X.env) Q X.xe s := by
  refine PySem.W.methodCall_KW (pl := pl) (thn (he pins s σ H _ I h) fun u s1 ⟨x, H1, I1, rx, a, C, dx, fs, g, ex, ea, c, k, l, q⟩ => ?_) ht
  subst ex
  obtain rfl : u = Value.ref a := rx
  exact getmeth_ok I1 ea c k l (q s1 I1)
end

section
variable {X : Cx} {pins : List (Addr × Obj)} {σ : St} {H : Hp} {s : Shared} {A : Around} {E : Value → Shared → Prop} {Q : Value → Shared → Prop} {c : Value} {b : Bool}
inductive TyOf (K : PySem.W.Frag) (H : Hp) : V → Value → Prop where
  | non : TyOf K H .non (.type "NoneType")
  | bl (x : Bool) : TyOf K H (.bl x) (.type "bool")
  | int (i : Int) : TyOf K H (.int i) (.type "int")
  | str (x : Str) : TyOf K H (.str x) (.type "str")
  | flt (x : UInt64) : TyOf K H (.flt x) (.type "float")
  | lst {a : Addr} {xs : List V} (e : H a = some (.lst xs)) : TyOf K H (.ref a) (.type "list")
  | frz {a : Addr} {o : Obj} {xs : List V} (e : H a = some (.frz o (.lst xs))) : TyOf K H (.ref a) (.type "list")
  | tup {a : Addr} {xs : List V} (e : H a = some (.tup xs)) : TyOf K H (.ref a) (.type "tuple")
  | dK {a : Addr} {kvs : List (Key × V)} (e : H a = some (.dK kvs)) : TyOf K H (.ref a) (.type "dict")
  | dT {a : Addr} {kvs : List (List Key × V)} (e : H a = some (.dT kvs)) : TyOf K H (.ref a) (.type "dict")
  | ins {a C dx : Addr} {fs : List (Str × V)} (e : H a = some (.ins C dx fs)) (cl : Cls K C) (ha : PySem.W.findIn K (.ref C) "__class__" = some (some (.builtin "object.__class__")))
      (hn : PySem.W.specialIn K (.builtin "object.__class__") "__get__" = some (some (.builtin "getset_descriptor.__get__"))) (htk : PySem.W.takesIn K (.builtin "object.__class__") = some true)
      (hm : PySem.W.mroIn K C (.type "object") = some true) : TyOf K H (.ref a) (.ref C)
theorem isinst_ok {x : V} {u t : Value} (I : Inv X pins σ H s) (rx : RelV x u) (ty : TyOf X.K H x t) (e : PySem.W.kitOne X.K t c = some b) (h : ∀ tk, Q (.bool b) { s with toks := tk }) :
    wpAny (model X.prog X.w) A (call (.builtin "isinstance") [u, c]) Q E s := by
  cases ty with
  | non => cases (show u = Value.none from rx); exact PySem.W.kia_one PySem.W.kitx_none I.kIn True.intro e (fun z => nomatch z) h
  | bl y => cases (show u = Value.bool y from rx); exact PySem.W.kia_one PySem.W.kitx_bool I.kIn True.intro e (fun z => nomatch z) h
  | int i => obtain ⟨t, q⟩ := (show ∃ t, u = Value.int i t from rx); cases q; exact PySem.W.kia_one PySem.W.kitx_int I.kIn True.intro e (fun z => nomatch z) h
  | str y => obtain ⟨t, q⟩ := (show ∃ t, u = Value.str y t from rx); cases q; exact PySem.W.kia_one PySem.W.kitx_str I.kIn True.intro e (fun z => nomatch z) h
  | flt y => obtain ⟨t, q⟩ := (show ∃ t, u = Value.float y t from rx); cases q; exact PySem.W.kia_one PySem.W.kitx_float I.kIn True.intro e (fun z => nomatch z) h
  | @lst a xs ea =>
    cases (show u = Value.ref a from rx)
    obtain ⟨_, _, n, _, h1⟩ := (show ObjOk X.prog X.w H s.heap a (.lst xs) from I.hok a _ ea)
    exact PySem.W.kia_one PySem.W.kitx_list I.kIn ⟨_, h1, rfl⟩ e (fun z => nomatch z) h
  | @frz a ob xs ea =>
    cases (show u = Value.ref a from rx)
    obtain ⟨_, _, _, n, _, h1⟩ := (show ObjOk X.prog X.w H s.heap a (.frz ob (.lst xs)) from I.hok a _ ea)
    exact PySem.W.kia_one PySem.W.kitx_list I.kIn ⟨_, h1, rfl⟩ e (fun z => nomatch z) h
  | @tup a xs ea =>
    cases (show u = Value.ref a from rx)
    obtain ⟨_, _, _, p⟩ := (show ObjOk X.prog X.w H s.heap a (.tup xs) from I.hok a _ ea)
    obtain ⟨o, h1, h2, _⟩ := p.1
    exact PySem.W.kia_one PySem.W.kitx_tuple I.kIn ⟨o, h1, h2⟩ e (fun z => nomatch z) h
  | @dK a kvs ea =>
    cases (show u = Value.ref a from rx)
    obtain ⟨_, _, vs, _, p⟩ := (show ObjOk X.prog X.w H s.heap a (.dK kvs) from I.hok a _ ea)
    obtain ⟨o, es, ep, h1, h2, _⟩ := p
    exact PySem.W.kia_one PySem.W.kitx_dict I.kIn ⟨o, h1, h2.1⟩ e (fun z => nomatch z) h
  | @dT a kvs ea =>
    cases (show u = Value.ref a from rx)
    obtain ⟨_, _, xs, _, o, es, ep, h1, h2, _⟩ := (show ObjOk X.prog X.w H s.heap a (.dT kvs) from I.hok a _ ea)
    exact PySem.W.kia_one PySem.W.kitx_dict I.kIn ⟨o, h1, h2.1⟩ e (fun z => nomatch z) h
  | @ins a C dx fs ea cl ha hn htk hm =>
    cases (show u = Value.ref a from rx)
    obtain ⟨mA, O, _⟩ := ins_get I.hok ea
    obtain ⟨od, J, _⟩ := O.look
    exact PySem.W.kia_one (PySem.W.kitx_own (cl.get _) cl.hd ha hn htk hm) I.kIn J e (fun z => nomatch z) h
end
end L2

namespace L2
open PySem PySem.Spec PyProof.Rows

set_option genInjectivity false in
set_option genSizeOf false in
structure Room (k : Nat) (A : Around) : Prop where
  hd : A.handled = none
  dp : A.depth + 3 * k + 5 < recursionLimit
  un : A.units + 16 * k + 200 < cLine
theorem Room.mono {j k : Nat} {A : Around} (r : Room k A) (h : j ≤ k) : Room j A := ⟨r.hd, by have := r.dp; omega, by have := r.un; omega⟩
theorem Room.deeper {k : Nat} {A : Around} (r : Room (k + 1) A) (env : Env) : Room k (A.deeper env) :=
  ⟨r.hd, by have := r.dp; show A.depth + 1 + 3 * k + 5 < _; omega, by have := r.un; show A.units + 3 + 16 * k + 200 < _; omega⟩
theorem make_depth {A : Around} {C : Addr} {us : List Value} {kw : List (Str × Value)} : (A.under (.builtin "type.__call__" ⟨.ref C :: us, kw⟩)).depth = A.depth + 1 := by
  first | rfl | simp [Around.under, Code.weight, Code.isCreation, Code.isGuard, Code.isCaller, Code.frames, Code.isFrame, guardIds]
theorem make_units {A : Around} {C : Addr} {us : List Value} {kw : List (Str × Value)} : (A.under (.builtin "type.__call__" ⟨.ref C :: us, kw⟩)).units = A.units + 1 := by
  first | rfl | simp [Around.under, Code.cUnits, Code.frames, Code.isFrame]
theorem Room.make {k : Nat} {A : Around} (r : Room (k + 1) A) (C : Addr) (us : List Value) (kw : List (Str × Value)) : Room k (A.under (.builtin "type.__call__" ⟨.ref C :: us, kw⟩)) :=
  ⟨r.hd, by have := r.dp; rw [make_depth]; omega, by have := r.un; rw [make_units]; omega⟩
theorem Room.depth {k : Nat} {A : Around} (r : Room k A) : A.depth < recursionLimit := by have := r.dp; omega
theorem Room.units {k : Nat} {A : Around} (r : Room k A) : A.units + 64 < cLine := by have := r.un; omega
noncomputable def tNil : TA := fun _ H Q => Q [] H
noncomputable def tCons (ta : TE) (tr : TA) : TA := fun σ H Q => ta σ H fun x H1 => tr σ H1 fun xs H2 => Q (x :: xs) H2
section
variable {X : Cx} {e : Expr} {es : List Expr} {te : TE} {t : TA} {pos : Pos}
theorem pa_nil : PA X [] tNil := fun _ _ _ _ H Q I h => Calls.spliced_nil ⟨[], H, I, .nil, h⟩
theorem pa_cons (ha : PE X e te) (hr : PA X es t) (hs : starEach (e :: es) X.env = (false, eval e X.env) :: starEach es X.env := by rfl) : PA X (e :: es) (tCons te t) := by
  intro pos pins s σ H Q I h
  rw [hs]
  show wpAny _ _ (spliced ((false, eval e X.env) :: backTo pos (starEach es X.env))) _ _ s
  refine Calls.spliced_cons (thn (ha pins s σ H _ I h) fun u s1 ⟨x, H1, I1, r1, q1⟩ => ?_)
  exact thn (hr pos pins s1 σ H1 _ I1 q1) fun us s2 ⟨xs, H2, I2, r2, q2⟩ => ⟨x :: xs, H2, I2, .cons r1 r2, q2⟩

noncomputable def tTup (t : TA) : TE := fun σ H Q => t σ H fun xs H1 => xs.length ≤ sizeLine ∧ ∀ p, H1 p = none → Q (.ref p) (upd H1 p (.tup xs))
noncomputable def tLst (t : TA) : TE := fun σ H Q => t σ H fun xs H1 => xs.length ≤ sizeLine ∧ ∀ p, H1 p = none → Q (.ref p) (upd H1 p (.lst xs))
theorem pe_tup {x1} (h : PA X es t) : PE X (.Tuple es x1 pos) (tTup t) := by
  intro pins s σ H Q I hq
  refine wpAny_Tuple_spliced (thn (h pos pins s σ H _ I hq) fun us s1 ⟨xs, H1, I1, r, z, q⟩ => ⟨by rw [← r.length]; exact z, ?_⟩)
  have hf : H1 s1.heap.objs.size = none := I1.hok.fresh (Nat.le_refl _)
  refine ⟨.ref s1.heap.objs.size, upd H1 s1.heap.objs.size (.tup xs), I1.laid (t' := s1.toks) (fun b u e => Heap.get?_push_of_some _ e) (Nat.le_refl _) ?_, rfl, q _ hf⟩
  exact ⟨z, us, r, ⟨_, Heap.get?_push_size _ rfl, rfl, _, rfl⟩, _, Heap.get?_push_size _ rfl, rfl⟩
theorem pe_lst (h : PA X es t) : PE X (.List es pos) (tLst t) := by
  intro pins s σ H Q I hq
  refine wpAny_List_spliced (thn (h pos pins s σ H _ I hq) fun us s1 ⟨xs, H1, I1, r, z, q⟩ => ⟨by rw [← r.length]; exact z, ?_⟩)
  have hf : H1 s1.heap.objs.size = none := I1.hok.fresh (Nat.le_refl _)
  refine ⟨.ref s1.heap.objs.size, upd H1 s1.heap.objs.size (.lst xs), I1.laid (t' := s1.toks) (fun b u e => Heap.get?_push_of_some _ e) (Nat.le_refl _) ?_, rfl, q _ hf⟩
  exact ⟨z, us, 0, r, Heap.get?_push_size _ rfl⟩
end

noncomputable abbrev Sp := List V → Hp → VK → XK → Prop
noncomputable abbrev CXT := List Env → Hp → Shared → XK → Value → Shared → Prop

set_option genInjectivity false in
set_option genSizeOf false in
structure Env0 (P : Program) (w : World) (K : PySem.W.Frag) (mg : Str → Option Value) (base : Heap) (A : Around) (outer : List Env) (s : Shared) (H : Hp) : Prop where
  frames : A.frames = some outer
  mod : Mod K mg base
  bs : ∀ b o, base.get? b = some o → s.heap.get? b = some o ∧ H b = none
  bsz : base.objs.size ≤ s.heap.objs.size
  funs : s.heap.FunFrames base outer
  frf : ∀ b ∈ frs outer, H b = none
  hok : HOk P w H s.heap
  bare : AllBare s.gens
noncomputable def CE (outer : List Env) (P : Program) (w : World) (H : Hp) (s : Shared) (Q : VK) (u : Value) (s' : Shared) : Prop :=
  ∃ v H', s'.os = s.os ∧ AllBare s'.gens ∧ Un (frs outer) [] H H' s.heap s'.heap ∧ HOk P w H' s'.heap ∧ RelV v u ∧ Q v H'
noncomputable def CR (CX : CXT) (outer : List Env) (P : Program) (w : World) (H : Hp) (s : Shared) (Q : VK) (E : XK) (r : Result) (s' : Shared) : Prop :=
  match r with
  | .ok (.ret u) => CE outer P w H s Q u s'
  | .ok _ => False
  | .error e => CX outer H s E e s'
set_option genInjectivity false in
set_option genSizeOf false in
structure FnOk (P : Program) (w : World) (K : PySem.W.Frag) (mg : Str → Option Value) (base : Heap) (CX : CXT) (k : Nat) (f : Addr) (fd : FuncData) (ps : List Str) (sp : Sp) : Prop where
  len : ∀ vs H Q E, sp vs H Q E → vs.length = ps.length
  run : ∀ (A : Around) (outer : List Env) (s : Shared) (H : Hp) (args : Args) (us : List Value) (vs : List V) (Q : VK) (E : XK), Room k A → Env0 P w K mg base A outer s H → BindsTo s fd args (ps.zip us) → Vals vs us → sp vs H Q E →
    codeAny (model P w) A (.call (.ref f) args) (CR CX outer P w H s Q E) s
theorem Env0.make {P : Program} {w : World} {K : PySem.W.Frag} {mg : Str → Option Value} {base : Heap} {A : Around} {outer : List Env} {s : Shared} {H : Hp} (e : Env0 P w K mg base A outer s H) (C : Addr) (us : List Value) (kw : List (Str × Value)) :
    Env0 P w K mg base (A.under (.builtin "type.__call__" ⟨.ref C :: us, kw⟩)) outer s H := ⟨by first | exact e.frames | (simpa [Around.under, Code.envs, Code.isFrame, pushEnvs] using e.frames), e.mod, e.bs, e.bsz, e.funs, e.frf, e.hok, e.bare⟩
section
variable {X : Cx} {pins : List (Addr × Obj)} {σ : St} {H : Hp} {s s' : Shared}
theorem Inv.env0 (I : Inv X pins σ H s) : Env0 X.prog X.w X.K X.mg X.base X.A X.stack s H :=
  ⟨I.ok.frames, I.ok.mod, I.bs, Nat.le_trans I.ok.bsz I.sz, I.stack, I.stkFree, I.hok, I.bare⟩
theorem Inv.after {Q : VK} {u : Value} (I : Inv X pins σ H s) (h : CE X.stack X.prog X.w H s Q u s') : EP X pins σ Q u s' := by
  obtain ⟨v, H', os, bare, un, hok, r, q⟩ := h
  obtain ⟨hh, g, d, t, os'⟩ := s'
  obtain rfl : os' = s.os := os
  exact ⟨v, H', I.call (h' := hh) (g' := g) (d' := d) (t' := t) (ch := []) un hok bare (fun b z => absurd z (by simp)), r, q⟩
end

noncomputable def tCall (sp : Sp) (dvs : List V) (E : XK) (t : TA) : TE := fun σ H Q => t σ H fun vs H1 => sp (vs ++ dvs) H1 Q E
noncomputable def tMeth (C : Addr) (m : Str) (sp : Sp) (dvs : List V) (E : XK) (ta : TE) (t : TA) : TE := fun σ H Q => ta σ H fun x H1 => ∃ a dx fs, x = .ref a ∧ H1 a = some (.ins C dx fs) ∧ fs.lookup m = none ∧
  t σ H1 fun vs H2 => sp (x :: (vs ++ dvs)) H2 Q E
noncomputable def tMake (C : Addr) (sp : Sp) (dvs : List V) (E : XK) (t : TA) : TE := fun σ H Q => t σ H fun vs H1 => ∀ x dx, H1 x = none → H1 dx = none → dx ≠ x →
  sp (.ref x :: (vs ++ dvs)) (upd (upd H1 dx (.own x)) x (.ins C dx [])) (fun v H2 => v = .non ∧ Q (.ref x) H2) E

noncomputable def Binds (K : PySem.W.Frag) (fd : FuncData) (ps : List Str) (ds : List Value) : Prop :=
  ∀ (s : Shared) (us : List Value), K.In s.heap → (us ++ ds).length = ps.length → BindsTo s fd ⟨us, []⟩ (ps.zip (us ++ ds))
theorem Binds.all {K : PySem.W.Frag} {fd : FuncData} {ps : List Str} (h : ∀ us : List Value, us.length = ps.length → bindArgs fd ⟨us, []⟩ = pure (ps.zip us)) : Binds K fd ps [] := fun s us _ hl => by
  rw [List.append_nil] at hl ⊢
  exact .of_eq (h us hl)

noncomputable def Passes (CX : CXT) (X : Cx) (E : XK) : Prop := ∀ (pins : List (Addr × Obj)) (σ : St) (H : Hp) (s : Shared) (e : Value) (s' : Shared), Inv X pins σ H s → CX X.stack H s E e s' → X.xe e s'

section
variable {X : Cx} {CX : CXT} {k : Nat} {f C : Addr} {fd : FuncData} {ps : List Str} {sp : Sp} {dvs : List V} {ds : List Value} {E : XK} {x m : Str} {p pos apos : Pos} {e o : Expr} {es : List Expr} {ta : TE} {t : TA}

theorem run_fn {pins : List (Addr × Obj)} {σ : St} {H : Hp} {s : Shared} {Q : VK} {us : List Value} {vs : List V} (F : FnOk X.prog X.w X.K X.mg X.base CX k f fd ps sp) (hr : Room k X.A) (hb : Binds X.K fd ps ds) (hd : Vals dvs ds) (hx : Passes CX X E)
    (I : Inv X pins σ H s) (r : Vals vs us) (h : sp (vs ++ dvs) H Q E) : wpAny (model X.prog X.w) X.A (call (.ref f) us) (EP X pins σ Q) X.xe s := by
  have r2 : Vals (vs ++ dvs) (us ++ ds) := r.append hd
  have hl : (us ++ ds).length = ps.length := by rw [← r2.length]; exact F.len _ _ _ _ h
  refine wpAny_call (codeAny_mono (F.run X.A X.stack s H ⟨us, []⟩ (us ++ ds) (vs ++ dvs) Q E hr I.env0 (hb s us I.kIn hl) r2 h) fun r s' hq => ?_)
  cases r with
  | error e => exact hx pins σ H s e s' I hq
  | ok fl =>
    cases fl with
    | ret u => exact I.after hq
    | next => exact False.elim hq
    | brk => exact False.elim hq
    | cont => exact False.elim hq

theorem pe_call (F : FnOk X.prog X.w X.K X.mg X.base CX k f fd ps sp) (hr : Room k X.A) (hg : Gl X x) (hm : X.mg x = some (.ref f)) (hk : PySem.W.keepIn X.K (.ref f) = true) (hb : Binds X.K fd ps ds) (hd : Vals dvs ds) (hx : Passes CX X E)
    (ha : PA X (e :: es) t) (hdb : (x == ("__debug__" : Str)) = false := by decide) (he : starEach (e :: es) X.env = (false, eval e X.env) :: starEach es X.env := by rfl) (hpl : (backTo pos (starEach es X.env)).any (·.1) = false := by rfl) :
    PE X (.Call (.Name x p) (e :: es) [] pos) (tCall sp dvs E t) := by
  intro pins s σ H Q I h
  refine wpAny_Call_Name_kw (ld_glob I hg hm ?_ hdb)
  refine PySem.W.callWith_K (h₀ := X.base) I.ok.mod.kin hk (thn (ha pos pins s σ H _ I h) fun us s1 ⟨vs, H1, I1, r, q⟩ => ⟨I1.kIn, ?_⟩) he hpl
  exact run_fn F hr hb hd hx I1 r q
theorem pe_meth {pl : Sem Bool} (he : PE X o ta) (c : Cls X.K C) (hm : Meth X.K C m f) (F : FnOk X.prog X.w X.K X.mg X.base CX k f fd ps sp) (hr : Room k X.A) (hb : Binds X.K fd ps ds) (hd : Vals dvs ds) (hx : Passes CX X E) (ha : PA X (e :: es) t)
    (hst : starEach (e :: es) X.env = (false, eval e X.env) :: starEach es X.env := by rfl) (hpl : (backTo pos (starEach es X.env)).any (·.1) = false := by rfl)
    (ht : eval (.Call (.Attribute o m apos) (e :: es) [] pos) X.env = (do
      let ov ← eval o X.env
      standAt apos.atName
      let (f, first) ← holding [ov] (getMethod ov m pl)
      callWith pos f first (backTo pos (starEach (e :: es) X.env)) (backToKw pos (keywordEach [] X.env))) := by rfl) :
    PE X (.Call (.Attribute o m apos) (e :: es) [] pos) (tMeth C m sp dvs E ta t) := by
  intro pins s σ H Q I h
  refine PySem.W.methodCall_KW (pl := pl) (thn (he pins s σ H _ I h) fun u s1 ⟨x, H1, I1, rx, a, dx, fs, ex, ea, l, q⟩ => ?_) ht
  subst ex
  obtain rfl : u = Value.ref a := rx
  refine getmeth_ok I1 ea c hm l ?_
  refine PySem.W.callWith_K (first := [.ref a]) (h₀ := X.base) I.ok.mod.kin hm.kp (thn (ha pos pins s1 σ H1 _ I1 q) fun us s2 ⟨vs, H2, I2, r, q2⟩ => ⟨I2.kIn, ?_⟩) hst hpl
  exact run_fn (us := .ref a :: us) (vs := .ref a :: vs) F hr hb hd hx I2 (.cons rfl r) q2
theorem pe_meth0 {pl : Sem Bool} (he : PE X o ta) (c : Cls X.K C) (hm : Meth X.K C m f) (F : FnOk X.prog X.w X.K X.mg X.base CX k f fd ps sp) (hr : Room k X.A) (hb : Binds X.K fd ps ds) (hd : Vals dvs ds) (hx : Passes CX X E)
    (ht : eval (.Call (.Attribute o m apos) [] [] pos) X.env = (do
      let ov ← eval o X.env
      standAt apos.atName
      let (f, first) ← holding [ov] (getMethod ov m pl)
      callWith pos f first (backTo pos (starEach [] X.env)) (backToKw pos (keywordEach [] X.env))) := by rfl) :
    PE X (.Call (.Attribute o m apos) [] [] pos) (tMeth C m sp dvs E ta tNil) := by
  intro pins s σ H Q I h
  refine PySem.W.methodCall_KW (pl := pl) (thn (he pins s σ H _ I h) fun u s1 ⟨x, H1, I1, rx, a, dx, fs, ex, ea, l, q⟩ => ?_) ht
  subst ex
  obtain rfl : u = Value.ref a := rx
  refine getmeth_ok I1 ea c hm l ?_
  exact PySem.W.callWith_K0 (first := [.ref a]) I1.kIn hm.kp (run_fn (us := [.ref a]) (vs := [.ref a]) F hr hb hd hx I1 (.cons rfl .nil) q)

set_option genInjectivity false in
set_option genSizeOf false in
structure Mk (K : PySem.W.Frag) (C f : Addr) : Prop where
  makes : PySem.W.makesIn K C = true
  init : PySem.W.findIn K (.ref C) "__init__" = some (some (.ref f))
  fn : PySem.W.isFn K (.ref f) = true
  kp : PySem.W.keepIn K (.ref C) = true

theorem run_make {pins : List (Addr × Obj)} {σ : St} {H : Hp} {s : Shared} {Q : VK} {us : List Value} {vs : List V} (M : Mk X.K C f) (F : FnOk X.prog X.w X.K X.mg X.base CX k f fd ps sp) (hr : Room (k + 1) X.A) (hb : Binds X.K fd ps ds) (hd : Vals dvs ds)
    (hx : Passes CX X E) (I : Inv X pins σ H s) (r : Vals vs us)
    (h : ∀ x dx, H x = none → H dx = none → dx ≠ x → sp (.ref x :: (vs ++ dvs)) (upd (upd H dx (.own x)) x (.ins C dx [])) (fun v H2 => v = .non ∧ Q (.ref x) H2) E) :
    wpAny (model X.prog X.w) X.A (call (.ref C) us) (EP X pins σ Q) X.xe s := by
  have hq := h (s.heap.objs.size + 1) s.heap.objs.size (I.hok.fresh (Nat.le_succ _)) (I.hok.fresh (Nat.le_refl _)) (Nat.ne_of_lt (Nat.lt_succ_self _))
  have I2 := Inv.made (C := C) I
  have r2 : Vals (V.ref (s.heap.objs.size + 1) :: (vs ++ dvs)) (Value.ref (s.heap.objs.size + 1) :: (us ++ ds)) := .cons rfl (r.append hd)
  have hl : (Value.ref (s.heap.objs.size + 1) :: us ++ ds).length = ps.length := by
    have e := r2.length
    rw [F.len _ _ _ _ hq] at e
    exact e.symm
  refine wpAny_call (make_map (f := f) I.kIn M.makes M.init (beq_iff_eq.mp M.fn) (codeAny_mono (F.run _ X.stack _ _ ⟨Value.ref (s.heap.objs.size + 1) :: us, []⟩ (Value.ref (s.heap.objs.size + 1) :: (us ++ ds)) _ _ E (hr.make C us [])
    (I2.env0.make C us []) (hb _ (Value.ref (s.heap.objs.size + 1) :: us) I2.kIn hl) r2 hq) fun r s' hq' => ?_))
  cases r with
  | error e => exact hx pins σ _ _ e s' I2 hq'
  | ok fl =>
    cases fl with
    | ret u =>
      obtain ⟨v, H', I3, rv, ev, q3⟩ := I2.after hq'
      subst ev
      exact ⟨rv, ⟨V.ref (s.heap.objs.size + 1), H', I3, rfl, q3⟩⟩
    | next => exact False.elim hq'
    | brk => exact False.elim hq'
    | cont => exact False.elim hq'
theorem pe_make0 (M : Mk X.K C f) (F : FnOk X.prog X.w X.K X.mg X.base CX k f fd ps sp) (hr : Room (k + 1) X.A) (hg : Gl X x) (hm : X.mg x = some (.ref C)) (hb : Binds X.K fd ps ds) (hd : Vals dvs ds) (hx : Passes CX X E)
    (hdb : (x == ("__debug__" : Str)) = false := by decide) : PE X (.Call (.Name x p) [] [] pos) (tMake C sp dvs E tNil) := by
  intro pins s σ H Q I h
  refine wpAny_Call_Name_kw (ld_glob I hg hm ?_ hdb)
  exact PySem.W.callWith_K0 I.kIn M.kp (run_make (us := []) M F hr hb hd hx I .nil h)
end


set_option genInjectivity false in
set_option genSizeOf false in
structure FnScope (N P : List Str) (sc : Scope) : Prop where
  kind : sc.kind = .function
  co : sc.isCoroutine = false
  gen : sc.isGenerator = false
  nd : N.Nodup
  pre : N.take P.length = P
  par : ∀ x ∈ P, sc.names.lookup x = some .local ∨ sc.names.lookup x = some .cell
  nofree : ∀ y ∈ sc.names, y.2 ≠ .free

theorem bindL_out {kindOf : Str → Option NameKind} {x : Str} : ∀ {binds : List (Str × Value)} {m : Str → Option Value}, (∀ v, (x, v) ∉ binds) → bindL kindOf binds m x = m x
  | [], _, _ => rfl
  | (n, v) :: r, m, h => by
    unfold bindL
    rw [bindL_out fun w hw => h w (List.mem_cons_of_mem _ hw)]
    split
    · have : x ≠ n := by rintro rfl; exact h v List.mem_cons_self
      simp [this]
    · rfl
theorem bindC_out {kindOf : Str → Option NameKind} {x : Str} : ∀ {binds : List (Str × Value)} {m : Str → Option Value}, (∀ v, (x, v) ∉ binds) → bindC kindOf binds m x = m x
  | [], _, _ => rfl
  | (n, v) :: r, m, h => by
    unfold bindC
    rw [bindC_out fun w hw => h w (List.mem_cons_of_mem _ hw)]
    split
    · rfl
    · have : x ≠ n := by rintro rfl; exact h v List.mem_cons_self
      simp [this]
theorem bindL_get {kindOf : Str → Option NameKind} {x : Str} {v : Value} : ∀ {P : List Str} {vs : List Value} {i : Nat} {m : Str → Option Value}, P.Nodup → P[i]? = some x → vs[i]? = some v → kindOf x = some .local →
    bindL kindOf (P.zip vs) m x = some v
  | [], _, _, _, _, h, _, _ => by simp at h
  | _ :: _, [], _, _, _, _, h, _ => by simp at h
  | p :: P, w :: vs, 0, m, nd, h1, h2, hk => by
    simp at h1 h2; subst h1; subst h2
    show bindL kindOf ((p, w) :: P.zip vs) m p = _
    unfold bindL
    rw [bindL_out fun v hv => (List.nodup_cons.mp nd).1 (List.of_mem_zip hv).1, if_pos hk]
    simp
  | p :: P, w :: vs, i + 1, m, nd, h1, h2, hk => by
    show bindL kindOf ((p, w) :: P.zip vs) m x = _
    unfold bindL
    exact bindL_get (i := i) (List.nodup_cons.mp nd).2 (by simpa using h1) (by simpa using h2) hk
theorem bindC_get {kindOf : Str → Option NameKind} {x : Str} {v : Value} : ∀ {P : List Str} {vs : List Value} {i : Nat} {m : Str → Option Value}, P.Nodup → P[i]? = some x → vs[i]? = some v → kindOf x ≠ some .local →
    bindC kindOf (P.zip vs) m x = some v
  | [], _, _, _, _, h, _, _ => by simp at h
  | _ :: _, [], _, _, _, _, h, _ => by simp at h
  | p :: P, w :: vs, 0, m, nd, h1, h2, hk => by
    simp at h1 h2; subst h1; subst h2
    show bindC kindOf ((p, w) :: P.zip vs) m p = _
    unfold bindC
    rw [bindC_out fun v hv => (List.nodup_cons.mp nd).1 (List.of_mem_zip hv).1, if_neg hk]
    simp
  | p :: P, w :: vs, i + 1, m, nd, h1, h2, hk => by
    show bindC kindOf ((p, w) :: P.zip vs) m x = _
    unfold bindC
    exact bindC_get (i := i) (List.nodup_cons.mp nd).2 (by simpa using h1) (by simpa using h2) hk

noncomputable def start (N : List Str) (vs : List V) : St := vs.map some ++ List.replicate (N.length - vs.length) none

noncomputable def cxOf (CX : CXT) (P : Program) (w : World) (K : PySem.W.Frag) (mg : Str → Option Value) (base : Heap) (N : List Str) (qual : Str) (scope : Scope) (f : Addr) (cd : Value) (A : Around) (outer : List Env) (s : Shared) (H : Hp) (E : XK) : Cx where
  prog := P
  w := w
  K := K
  mg := mg
  base := base
  A := A.deeper (envOfC qual scope s.heap.objs.size f cd)
  N := N
  s₀ := s
  H₀ := H
  env := envOfC qual scope s.heap.objs.size f cd
  outer := outer
  stack := envOfC qual scope s.heap.objs.size f cd :: outer
  ex := []
  calm := true
  fn := fun _ => true
  pn := []
  xe := fun e s' => wpAny (model P w) (A.deeper (envOfC qual scope s.heap.objs.size f cd)) (leaving (envOfC qual scope s.heap.objs.size f cd) e) (fun _ s'' => CX outer H s E e s'') (fun e' s'' => CX outer H s E e' s'') s'

theorem cell_has {sc : Scope} {n : Nat} {x : Str} (h : sc.names.lookup x = some .cell) : ∃ c, (cellsFrom n sc.names []).lookup x = some c := by
  have q := PySem.W.cellsFrom_some sc.names n [] (.inl h)
  exact Option.isSome_iff_exists.mp q

theorem inv_start {CX : CXT} {P : Program} {w : World} {K : PySem.W.Frag} {mg : Str → Option Value} {base : Heap} {N ps : List Str} {qual : Str} {scope : Scope} {f : Addr} {cd : Value} {A : Around} {outer : List Env} {s s1 : Shared} {H : Hp} {E : XK} {us : List Value} {vs : List V}
    (S : FnScope N ps scope) (hd : A.handled = none) (e0 : Env0 P w K mg base A outer s H) (hl : vs.length = ps.length) (r : Vals vs us)
    (x : InCallC s s.heap.objs.size (bindL (envOfC qual scope s.heap.objs.size f cd).kindOf (ps.zip us) fun _ => none) (cellsFrom (s.heap.objs.size + 1) scope.names []) (bindC (envOfC qual scope s.heap.objs.size f cd).kindOf (ps.zip us) fun _ => none) s1) :
    Inv (cxOf CX P w K mg base N qual scope f cd A outer s H E) [] (start N vs) H s1 := by
  have hpl : ps.length ≤ N.length := by have := congrArg List.length S.pre; rw [List.length_take] at this; omega
  obtain ⟨h1, tk, rfl, hk⟩ := x.done
  have noA : ∀ b : Addr, b ∉ (cxOf CX P w K mg base N qual scope f cd A outer s H E).ex := fun b z => absurd (show b ∈ ([] : List Addr) from z) (by simp)
  refine ⟨⟨e0.mod, S.kind, rfl, rfl, Nat.le_refl _, fun y z c h1 h2 => ?_, fun y hy => ?_, fun y c _ h => ?_, fun _ => hd, Around.frames_deeper e0.frames, .inr ⟨rfl, rfl⟩, fun b z => absurd z (noA b), e0.bs, e0.bsz, fun b _ _ => noA b, fun b z => absurd z (noA b), e0.funs, e0.frf⟩,
    rfl, e0.bare, Un.kept hk, ⟨_, x.toInCall.ns, fun i y v h1 h2 h3 => ?_⟩, fun y c h => ⟨_, x.cell y c h⟩, e0.hok.fresh (Nat.le_refl _), fun y c h => ?_, fun p hp => absurd (show p ∈ ([] : List (Addr × Obj)) from hp) (by simp), e0.hok.kept hk, ?_⟩
  · exact name_of_addr x.apart (PySem.mem_of_lookup h1) (PySem.mem_of_lookup h2)
  · have hy : scope.names.lookup y = some .cell ∨ scope.names.lookup y = some .free := hy
    rcases hy with hy | hy
    · exact cell_has hy
    · exact absurd rfl (S.nofree _ (PySem.mem_of_lookup hy))
  · exact Nat.le_of_lt (x.above y c (PySem.mem_of_lookup h))
  · have hi : i < vs.length := by
      unfold start at h2
      by_cases hi : i < vs.length
      · exact hi
      · rw [List.getElem?_append_right (by simpa using hi)] at h2
        rw [List.getElem?_replicate] at h2
        split at h2 <;> cases h2
    have ha : vs[i]? = some v := by
      unfold start at h2
      rw [List.getElem?_append_left (by simpa using hi), List.getElem?_map] at h2
      cases e : vs[i]? with
      | none => rw [e] at h2; cases h2
      | some a => rw [e] at h2; cases h2; rfl
    obtain ⟨u, hu, rv⟩ := r.get ha
    have hp : ps[i]? = some y := by
      rw [← S.pre, List.getElem?_take_of_lt (by omega)]; exact h1
    have ndP : ps.Nodup := by rw [← S.pre]; exact S.nd.sublist (List.take_sublist _ _)
    refine ⟨u, rv, ?_⟩
    rcases S.par y (List.mem_of_getElem? hp) with k | k
    · exact .inl ⟨k, bindL_get ndP hp hu k⟩
    · obtain ⟨c, e⟩ := cell_has (n := s.heap.objs.size + 1) k
      refine .inr ⟨.inl k, c, e, ?_⟩
      have q := x.cell y c e
      rw [bindC_get ndP hp hu (by show scope.names.lookup y ≠ _; rw [k]; decide)] at q
      exact q
  · exact e0.hok.fresh (Nat.le_of_lt (x.above y c (PySem.mem_of_lookup h)))
  · unfold start
    show _ = N.length
    rw [List.length_append, List.length_map, List.length_replicate]
    omega

theorem fn_of {CX : CXT} {P : Program} {w : World} {K : PySem.W.Frag} {mg : Str → Option Value} {base : Heap} {k : Nat} {f : Addr} {name qual : Str} {params : Arguments} {body : List Stmt} {scope : Scope} {dV kV doc pm cdv ct oc : Value} {an od : Option Addr}
    {osl : Array (Option Value)} {N ps : List Str} {sp : Sp} (lk : K.lookup f = some ⟨oc, od, .func (PySem.W.fnOf name qual params body scope dV kV doc pm an cdv ct), osl⟩) (hcd : PySem.W.codeIn K cdv qual = true) (S : FnScope N ps scope)
    (len : ∀ vs H Q E, sp vs H Q E → vs.length = ps.length)
    (hbody : ∀ (A : Around) (outer : List Env) (s : Shared) (H : Hp) (vs : List V) (Q : VK) (E : XK), Room k (A.deeper (envOfC qual scope s.heap.objs.size f cdv)) → sp vs H Q E →
      ∃ t, PSs (cxOf CX P w K mg base N qual scope f cdv A outer s H E) body t ∧ t { nx := fun _ H' => Q .non H', rt := Q } (start N vs) H) :
    FnOk P w K mg base CX (k + 1) f (PySem.W.fnOf name qual params body scope dV kV doc pm an cdv ct) ps sp := by
  refine ⟨len, fun A outer s H args us vs Q E hr e0 hb r hsp => ?_⟩
  have hl := len _ _ _ _ hsp
  have KX : K.In s.heap := e0.mod.kin.keeps fun b o e => (e0.bs b o e).1
  have lim : s.heap.NoLimit := e0.mod.nolimit.keeps fun b o e => (e0.bs b o e).1
  have hkind : ∀ y ∈ ps.zip us, scope.names.lookup y.1 = some .local ∨ (scope.names.lookup y.1 = some .cell ∧ ((cellsFrom (s.heap.objs.size + 1) scope.names []).lookup y.1).isSome = true) := fun ⟨n, v⟩ hy => by
    rcases S.par n (List.of_mem_zip hy).1 with q | q
    · exact .inl q
    · exact .inr ⟨q, PySem.W.cellsFrom_some _ _ _ (.inl q)⟩
  refine codeAny_call_function hr.depth (KX _ _ lk) rfl S.co S.gen rfl (PySem.W.codeRec_of KX hcd) (hb _ _ _ _ ?_)
  refine wpAny_newFunctionEnv_cells S.kind hkind fun env he s1 x => ?_
  subst he
  refine ⟨lim.keeps x.toInCall.keep, codeAny_func ?_⟩
  obtain ⟨t, ht, hq⟩ := hbody A outer s H vs Q E (hr.deeper _) hsp
  have I : Inv (cxOf CX P w K mg base N qual scope f cdv A outer s H E) [] (start N vs) H s1 := inv_start S hr.hd e0 hl r x
  refine wpAny_mono (ht [] s1 (start N vs) H _ I hq) (fun fl s' hs => ?_) fun e s' hs => hs
  have fin : ∀ {σ' : St} {H' : Hp} {v : V} {u : Value}, Inv (cxOf CX P w K mg base N qual scope f cdv A outer s H E) [] σ' H' s' → RelV v u → Q v H' → CE outer P w H s Q u s' :=
    fun {σ' H' v u} J rv q => ⟨v, H', J.os, J.bare, J.base, J.hok, rv, q⟩
  cases fl with
  | ret u =>
    obtain ⟨v, σ', H', J, rv, q⟩ := hs
    exact fin J rv q
  | next =>
    obtain ⟨σ', H', J, q⟩ := hs
    exact fin (v := V.non) (u := Value.none) J rfl q
  | brk =>
    obtain ⟨_, _, _, q⟩ := hs
    exact False.elim q
  | cont =>
    obtain ⟨_, _, _, q⟩ := hs
    exact False.elim q
end L2

namespace L2
open PySem PySem.Spec PyProof.Rows
section
variable {X : Cx} {x : Str} {p pos : Pos} {e : Expr} {es : List Expr} {t : TA} {id T : String} {r : List V → Hp → VK → Prop}

noncomputable def tCB (r : List V → Hp → VK → Prop) (t : TA) : TE := fun σ H Q => t σ H fun vs H1 => r vs H1 Q
theorem pe_callB (hc : CallR X (.builtin id) r) (hg : Gl X x) (hm : X.mg x = none) (hv : bootBuiltins x = some (.builtin id)) (ha : PA X (e :: es) t) (hn : x ≠ "__name__" := by decide) (hdb : (x == ("__debug__" : Str)) = false := by decide)
    (he : starEach (e :: es) X.env = (false, eval e X.env) :: starEach es X.env := by rfl) (hpl : (backTo pos (starEach es X.env)).any (·.1) = false := by rfl) : PE X (.Call (.Name x p) (e :: es) [] pos) (tCB r t) := by
  intro pins s σ H Q I h
  refine wpAny_Call_Name_kw (ld_blt I hg hm hv ?_ hn hdb)
  exact PyProof.Rows.callWith_builtin1 (thn (ha pos pins s σ H _ I h) fun us s1 ⟨vs, H1, I1, r1, q1⟩ => hc pins s1 σ H1 vs us Q I1 r1 q1) he hpl
theorem pe_callTy (hc : CallR X (.type T) r) (hg : Gl X x) (hm : X.mg x = none) (hv : bootBuiltins x = some (.type T)) (ha : PA X (e :: es) t) (hn : x ≠ "__name__" := by decide) (hdb : (x == ("__debug__" : Str)) = false := by decide)
    (he : starEach (e :: es) X.env = (false, eval e X.env) :: starEach es X.env := by rfl) (hpl : (backTo pos (starEach es X.env)).any (·.1) = false := by rfl) : PE X (.Call (.Name x p) (e :: es) [] pos) (tCB r t) := by
  intro pins s σ H Q I h
  refine wpAny_Call_Name_kw (ld_blt I hg hm hv ?_ hn hdb)
  exact PyProof.Rows.callWith_type1 (thn (ha pos pins s σ H _ I h) fun us s1 ⟨vs, H1, I1, r1, q1⟩ => hc pins s1 σ H1 vs us Q I1 r1 q1) he hpl
end
end L2

namespace HT
open PySem PyProof.Rows

section
open PySem.SeqAt
open PySem.AutoSeq1 (wpAny_loadPart')
open PySem.MeetsSeq PySem.MeetsSeq2 PySem.MeetsSeq3

end

section
variable {prog : Program} {w : World} {A : Around} {E : Value → Shared → Prop} {s : Shared}

noncomputable def sIx (n d : Nat) : Option Int → Nat
  | none => d
  | some v => if v < 0 then (v + (n : Int)).toNat else min v.toNat n
end
end HT

namespace L2
open PySem PySem.Spec PyProof.Rows

noncomputable abbrev TO := St → Hp → (Option Int → Hp → Prop) → Prop
noncomputable def PO (X : Cx) (e : Option Expr) (t : TO) : Prop :=
  ∀ (pins : List (Addr × Obj)) (s : Shared) (σ : St) (H : Hp) (Q : Option Int → Hp → Prop), Inv X pins σ H s → t σ H Q →
    wpAny (model X.prog X.w) X.A (evalPart e X.env) (fun u s' => ∃ o H', Inv X pins σ H' s' ∧ IsPart u o ∧ Q o H') X.xe s
noncomputable def tPart (t : TE) : TO := fun σ H Q => t σ H fun x H1 => ∃ i, x = .int i ∧ Q (some i) H1

theorem intsAre_of {ns : List Int} : ∀ {us : List Value}, Vals (ns.map V.int) us → IntsAre us ns := by
  induction ns with
  | nil => intro us r; rw [List.map_nil] at r; cases r; exact .nil
  | cons n ns ih =>
    intro us r
    rw [List.map_cons] at r
    cases r with
    | cons r1 r2 =>
      obtain ⟨t, e⟩ := r1
      subst e
      exact .cons n t (ih r2)

section
variable {X : Cx} {e : Expr} {te : TE} {lo hi : Option Expr} {tl th : TO} {pos p2 : Pos}

theorem po_some (h : PE X e te) : PO X (some e) (tPart te) := by
  intro pins s σ H Q I hw
  rw [evalPart_some]
  refine thn (h pins s σ H _ I hw) fun u s1 ⟨x, H1, I1, r1, q1⟩ => ?_
  obtain ⟨i, rfl, q⟩ := q1
  obtain ⟨t, rfl⟩ := r1
  exact ⟨some i, H1, I1, .int i t, q⟩

noncomputable def SlR (X : Cx) (r : V → Option Int → Option Int → Hp → VK → Prop) : Prop :=
  ∀ (pins : List (Addr × Obj)) (s : Shared) (σ : St) (H : Hp) (x : V) (v vl vu : Value) (lo hi : Option Int) (sl : Addr) (Q : VK), Inv X pins σ H s → RelV x v → s.heap.IsSliceOf sl vl vu .none → IsPart vl lo → IsPart vu hi → r x lo hi H Q →
    ∃ T id, typeLookup (.type T) "__getitem__" = pure (some (.builtin id)) ∧ s.TypeIs v T ∧ wpAny (model X.prog X.w) X.A (getItem v (.ref sl)) (EP X pins σ Q) X.xe s
noncomputable def tSl (r : V → Option Int → Option Int → Hp → VK → Prop) (te : TE) (tl th : TO) : TE := fun σ H Q => te σ H fun x H1 => tl σ H1 fun l H2 => th σ H2 fun u H3 => r x l u H3 Q
theorem pe_slice {r : V → Option Int → Option Int → Hp → VK → Prop} (hr : SlR X r) (he : PE X e te) (hl : PO X lo tl) (hu : PO X hi th) : PE X (.Subscript e (.Slice lo hi none p2) pos) (tSl r te tl th) := by
  intro pins s σ H Q I h
  refine Subscript_ (thn (he pins s σ H _ I h) fun v s1 ⟨x, H1, I1, r1, q1⟩ => ?_)
  refine wpAny_Slice (thn (hl pins s1 σ H1 _ I1 q1) fun vl s2 ⟨l, H2, I2, pl, q2⟩ => thn (hu pins s2 σ H2 _ I2 q2) fun vu s3 ⟨u, H3, I3, pu, q3⟩ => ?_)
  rw [evalPart_none]
  refine wpAny_pure ?_
  have I4 : Inv X pins σ H3 { s3 with heap := s3.heap.push { cls := .type "slice", data := .fields #[vl, vu, .none] } } := I3.kept (t' := s3.toks) fun b ob q => Heap.get?_push_of_some _ q
  obtain ⟨T, id, hT, ht, hg⟩ := hr pins { s3 with heap := s3.heap.push { cls := .type "slice", data := .fields #[vl, vu, .none] } } σ H3 x v vl vu l u s3.heap.objs.size Q I4 r1 (Heap.IsSliceOf.new ..) pl pu q3
  show wpAny (model X.prog X.w) X.A (subscriptTail e (.Slice lo hi none p2) v (.ref s3.heap.objs.size)) (EP X pins σ Q) X.xe { s3 with heap := s3.heap.push { cls := .type "slice", data := .fields #[vl, vu, .none] } }
  exact tail_any (ops := [.ref s3.heap.objs.size, v]) ht hT hg (by with_unfolding_all rfl)

noncomputable def cutV (xs : List V) (lo hi : Option Int) : List V := (xs.drop (HT.sIx xs.length 0 lo)).take (HT.sIx xs.length xs.length hi - HT.sIx xs.length 0 lo)
theorem cutV_length (xs : List V) (lo hi : Option Int) : (cutV xs lo hi).length ≤ xs.length := by
  unfold cutV
  rw [List.length_take, List.length_drop]
  omega
end
end L2

namespace L2
open PySem PySem.Spec PyProof.Rows

noncomputable def ixN (n : Nat) (i : Int) : Option Nat := if 0 ≤ i then (if i < n then some i.toNat else none) else if -(n : Int) ≤ i then some (i + n).toNat else none
noncomputable def atI {α : Type} (xs : List α) (i : Int) : Option α := (ixN xs.length i).bind fun j => xs[j]?
theorem ixN_seq {n : Nat} {i : Int} {j : Nat} (h : ixN n i = some j) : seqIndex? i n = some j ∧ j < n ∧ -(n : Int) ≤ i ∧ i < n := by
  unfold ixN at h
  by_cases h0 : 0 ≤ i
  · rw [if_pos h0] at h
    by_cases h1 : i < n
    · rw [if_pos h1] at h
      have e : i.toNat = j := Option.some.inj h
      exact ⟨by rw [seqIndex_of h0 h1, e], by omega, by omega, h1⟩
    · rw [if_neg h1] at h; cases h
  · rw [if_neg h0] at h
    by_cases h1 : -(n : Int) ≤ i
    · rw [if_pos h1] at h
      have e : (i + n).toNat = j := Option.some.inj h
      exact ⟨by rw [seqIndex_neg (by omega) h1, e], by omega, h1, by omega⟩
    · rw [if_neg h1] at h; cases h
theorem atI_get {α : Type} {xs : List α} {i : Int} {v : α} (h : atI xs i = some v) : ∃ j, seqIndex? i xs.length = some j ∧ xs[j]? = some v ∧ j < xs.length ∧ -(xs.length : Int) ≤ i ∧ i < xs.length := by
  unfold atI at h
  cases e : ixN xs.length i with
  | none => rw [e] at h; cases h
  | some j =>
    rw [e] at h
    obtain ⟨h1, h2, h3, h4⟩ := ixN_seq e
    exact ⟨j, h1, h, h2, h3, h4⟩
theorem atI_nat {α : Type} {xs : List α} {j : Nat} {v : α} (h : xs[j]? = some v) : atI xs (j : Int) = some v := by
  have hj : j < xs.length := (List.getElem?_eq_some_iff.mp h).1
  have e : ixN xs.length (j : Int) = some j := by
    unfold ixN
    rw [if_pos (by omega), if_pos (by omega)]; simp
  unfold atI; rw [e]; exact h
noncomputable def PlainIx (b : Expr) : Prop := ∀ o i, subscripted b false o i = operate [o, i] (getItem o i)
noncomputable def IxR (X : Cx) (r : R2) : Prop :=
  ∀ (value slice : Expr) (pins : List (Addr × Obj)) (s : Shared) (σ : St) (H : Hp) (x y : V) (v u : Value) (Q : VK), Inv X pins σ H s → RelV x v → RelV y u → r x y H Q →
    subscripted slice false v u = operate [v, u] (getItem v u) → wpAny (model X.prog X.w) X.A (subscriptTail value slice v u) (EP X pins σ Q) X.xe s
noncomputable def MtR (X : Cx) (id : String) (r : V → List V → Hp → VK → Prop) : Prop :=
  ∀ (pins : List (Addr × Obj)) (s : Shared) (σ : St) (H : Hp) (x : V) (xs : List V) (v : Value) (us : List Value) (Q : VK), Inv X pins σ H s → RelV x v → Vals xs us → r x xs H Q →
    wpAny (model X.prog X.w) X.A (call (.builtin id) (v :: us)) (EP X pins σ Q) X.xe s
section
variable {X : Cx} {a b : Expr} {ta tb : TE} {pos : Pos}
theorem pe_ix {r : R2} (hr : IxR X r) (ha : PE X a ta) (hb : PE X b tb) (hs : PlainIx b) : PE X (.Subscript a b pos) (tOp r ta tb) := by
  intro pins s σ H Q I h
  exact Subscript_ (binT ha hb I h fun v u s2 x y H2 I2 rx ry q => hr a b pins s2 σ H2 x y v u Q I2 rx ry q (hs _ _))

noncomputable def rIxL (K : PySem.W.Frag) : R2 := fun x y H Q => ∃ p xs i v, x = .ref p ∧ y = .int i ∧ SqL K H p xs ∧ atI xs i = some v ∧ Q v H
noncomputable def rIxT (K : PySem.W.Frag) : R2 := fun x y H Q => ∃ p xs i v, x = .ref p ∧ y = .int i ∧ SqT K H p xs ∧ atI xs i = some v ∧ Q v H
noncomputable def rIxS : R2 := fun x y H Q => ∃ z i c, x = .str z ∧ y = .int i ∧ z.length ≤ sizeLine ∧ atI z.cps.toList i = some c ∧ Q (.str ⟨#[c]⟩) H
theorem ix_list : IxR X (rIxL X.K) := by
  intro value slice pins s σ H x y v u Q I rx ry h hs
  obtain ⟨p, xs, i, z, rfl, rfl, hq, he, q⟩ := h
  cases rx
  obtain ⟨t, rfl⟩ := ry
  obtain ⟨its, r, pl, hz⟩ := I.list hq
  obtain ⟨j, h1, h2, h3, h4, h5⟩ := atI_get he
  obtain ⟨w, ew, rw'⟩ := r.get h2
  have hl := r.length
  have hn := line63
  have fin : EP X pins σ Q w s := ⟨z, H, I, rw', q⟩
  by_cases h0 : 0 ≤ i
  · have hj : i.toNat = j := by
      rw [seqIndex_of h0 h5] at h1
      exact Option.some.inj h1
    exact item_listR pl.isList h0 (by omega) (by rw [hj]; simpa using ew) fin hs
  · have hj : (i + (its.toArray.size : Int)).toNat = j := by
      rw [seqIndex_neg (by omega) h4] at h1
      rw [List.size_toArray, ← hl]
      exact Option.some.inj h1
    exact subscriptTail_builtinR (x := w) pl.isList.typeIs slot_list_getitem.lookup
      (wpAny_getItem_list_neg (Q := fun r s' => r = w ∧ EP X pins σ Q r s') pl.isList (by omega) (by rw [List.size_toArray] <;> omega) (by omega) (by rw [hj]; simpa using ew) ⟨rfl, fin⟩) hs
theorem ix_tup : IxR X (rIxT X.K) := by
  intro value slice pins s σ H x y v u Q I rx ry h hs
  obtain ⟨p, xs, i, z, rfl, rfl, hq, he, q⟩ := h
  cases rx
  obtain ⟨t, rfl⟩ := ry
  obtain ⟨its, r, pl, hz⟩ := I.tuple hq
  obtain ⟨j, h1, h2, h3, h4, h5⟩ := atI_get he
  obtain ⟨w, ew, rw'⟩ := r.get h2
  have hl := r.length
  have hn := line63
  have fin : EP X pins σ Q w s := ⟨z, H, I, rw', q⟩
  exact subscriptTail_builtinR (x := w) pl.typeIs slot_tuple_getitem.lookup
    (getItem_tuple (j := j) (Q := fun r s' => r = w ∧ EP X pins σ Q r s') pl (by omega) (by omega) (by rw [List.size_toArray, ← hl]; exact h1) (by simpa using ew) ⟨rfl, fin⟩) hs
theorem ix_str : IxR X rIxS := by
  intro value slice pins s σ H x y v u Q I rx ry h hs
  obtain ⟨z, i, c, rfl, rfl, hz, he, q⟩ := h
  obtain ⟨t, rfl⟩ := rx
  obtain ⟨t', rfl⟩ := ry
  obtain ⟨j, h1, h2, h3, h4, h5⟩ := atI_get he
  have hl : z.cps.toList.length = z.length := by simp [Str.length]
  rw [hl] at h1 h4 h5
  have hn := line63
  exact tail_any (typeIs_str s z t) slot_str_getitem.lookup (getItem_str (c := c) (by
    have e1 : decide (i < -(2 ^ 63 : Int)) = false := decide_eq_false (by omega)
    have e2 : decide (i ≥ 2 ^ 63) = false := decide_eq_false (by omega)
    rw [e1, e2, Bool.or_false]) (by rw [h1]; simpa using h2) ⟨.str ⟨#[c]⟩, H, I.tok _, ⟨_, rfl⟩, q⟩) hs
theorem slice_bounds (lo hi : Option Int) (n : Nat) : (sliceBounds lo hi none n).1 = ((HT.sIx n 0 lo : Nat) : Int) ∧ (sliceBounds lo hi none n).2.1 = ((HT.sIx n n hi : Nat) : Int) ∧ (sliceBounds lo hi none n).2.2 = 1 := by
  refine ⟨?_, ?_, rfl⟩
  · cases lo with
    | none => simp [sliceBounds, HT.sIx]
    | some i =>
      simp only [sliceBounds, HT.sIx, Option.getD_none, show (1 : Int) > 0 by decide, if_true]
      by_cases h : i < 0
      · simp only [h, if_true] <;> omega
      · simp only [h, if_false] <;> omega
  · cases hi with
    | none => simp [sliceBounds, HT.sIx]
    | some i =>
      simp only [sliceBounds, HT.sIx, Option.getD_none, show (1 : Int) > 0 by decide, if_true]
      by_cases h : i < 0
      · simp only [h, if_true] <;> omega
      · simp only [h, if_false] <;> omega
theorem slicePick_cut (its : List Value) (lo hi : Option Int) : slicePick its.toArray lo hi none = ((its.drop (HT.sIx its.length 0 lo)).take (HT.sIx its.length its.length hi - HT.sIx its.length 0 lo)).toArray := by
  obtain ⟨h1, h2, h3⟩ := slice_bounds lo hi its.toArray.size
  unfold slicePick
  rw [h1, h2, h3]
  simp only [sliceRange_one, pick_run, List.size_toArray] <;> rfl
noncomputable def rSlL (K : PySem.W.Frag) : V → Option Int → Option Int → Hp → VK → Prop := fun x lo hi H Q => ∃ a xs, x = .ref a ∧ SqL K H a xs ∧ ∀ p, H p = none → Q (.ref p) (upd H p (.lst (cutV xs lo hi)))
theorem sl_list : SlR X (rSlL X.K) := by
  intro pins s σ H x v vl vu lo hi sl Q I rx hs pl pu h
  obtain ⟨a, xs, rfl, hx, q⟩ := h
  cases rx
  obtain ⟨its, r, ht, hz⟩ := I.list hx
  have hlen := r.length
  refine ⟨"list", _, slot_list_getitem.lookup, ht.isList.typeIs, ?_⟩
  refine wpAny_getItem_list_slice ht.isList hs pl pu .none (by simp) ?_ (by rw [List.size_toArray] <;> omega)
  rw [slicePick_cut, ← hlen]
  refine ⟨.ref s.heap.objs.size, _, I.laid (t' := s.toks) (o := .lst (cutV xs lo hi)) (fun b ob q => Heap.get?_push_of_some _ q) (Nat.le_refl _) ?_, rfl, q _ (I.hok.fresh (Nat.le_refl _))⟩
  exact ⟨Nat.le_trans (cutV_length xs lo hi) hz, _, 0, (r.drop (HT.sIx xs.length 0 lo)).take (HT.sIx xs.length xs.length hi - HT.sIx xs.length 0 lo), Heap.get?_push_size _ rfl⟩

noncomputable def flatV : V → Bool
  | .non => true
  | .bl _ => true
  | .int _ => true
  | .str _ => true
  | _ => false
noncomputable def eqV : V → V → Bool
  | .non, .non => true
  | .bl a, .bl b => a == b
  | .bl a, .int b => (if a then 1 else 0) == b
  | .int a, .bl b => a == (if b then 1 else 0)
  | .int a, .int b => a == b
  | .str a, .str b => a == b
  | _, _ => false
theorem eqAt_V {A : Around} {s : Shared} {y x : V} {u v : Value} (ry : RelV y u) (rx : RelV x v) (fy : flatV y = true) (fx : flatV x = true) : SeqAt.EqAt A s u v (eqV y x) := by
  cases y with
  | non =>
    cases ry
    cases x with
    | non => cases rx; exact SeqAt.EqAt.same _
    | bl b => cases rx; exact SeqAt.EqAt.none_bool b
    | int b => obtain ⟨t, rfl⟩ := rx; exact SeqAt.EqAt.none_int b t
    | str b => obtain ⟨t, rfl⟩ := rx; exact SeqAt.EqAt.none_str b t
    | _ => exact absurd (show false = true from fx) Bool.false_ne_true
  | bl a =>
    cases ry
    cases x with
    | non => cases rx; exact SeqAt.EqAt.bool_none a
    | bl b => cases rx; exact SeqAt.EqAt.bool_bool a b
    | int b => obtain ⟨t, rfl⟩ := rx; exact SeqAt.EqAt.bool_int a b t
    | str b => obtain ⟨t, rfl⟩ := rx; exact SeqAt.EqAt.bool_str a b t
    | _ => exact absurd (show false = true from fx) Bool.false_ne_true
  | int a =>
    obtain ⟨t', rfl⟩ := ry
    cases x with
    | non => cases rx; exact SeqAt.EqAt.int_none a t'
    | bl b => cases rx; exact SeqAt.EqAt.int_bool a t' b
    | int b => obtain ⟨t, rfl⟩ := rx; exact SeqAt.EqAt.int_int a t' b t
    | str b => obtain ⟨t, rfl⟩ := rx; exact SeqAt.EqAt.int_str a t' b t
    | _ => exact absurd (show false = true from fx) Bool.false_ne_true
  | str a =>
    obtain ⟨t', rfl⟩ := ry
    cases x with
    | non => cases rx; exact SeqAt.EqAt.str_none a t'
    | bl b => cases rx; exact SeqAt.EqAt.str_bool a t' b
    | int b => obtain ⟨t, rfl⟩ := rx; exact SeqAt.EqAt.str_int a t' b t
    | str b => obtain ⟨t, rfl⟩ := rx; exact SeqAt.EqAt.str_str a t' b t
    | _ => exact absurd (show false = true from fx) Bool.false_ne_true
  | _ => exact absurd (show false = true from fy) Bool.false_ne_true
noncomputable def eqU (x : V) (u : Value) : Bool := match u with
  | .none => eqV .non x
  | .bool b => eqV (.bl b) x
  | .int i _ => eqV (.int i) x
  | .str z _ => eqV (.str z) x
  | _ => false
theorem eqU_of {x y : V} {u : Value} (r : RelV y u) (f : flatV y = true) : eqU x u = eqV y x := by
  cases y with
  | non => cases r; rfl
  | bl b => cases r; rfl
  | int i => obtain ⟨t, rfl⟩ := r; rfl
  | str z => obtain ⟨t, rfl⟩ := r; rfl
  | _ => exact absurd (show false = true from f) Bool.false_ne_true
theorem any_eqU {x : V} : ∀ {xs : List V} {us : List Value}, Vals xs us → xs.all flatV = true → us.any (eqU x) = xs.any fun y => eqV y x
  | _, _, .nil, _ => rfl
  | y :: xs, u :: us, .cons r t, f => by
    rw [List.all_cons, Bool.and_eq_true] at f
    rw [List.any_cons, List.any_cons, eqU_of r f.1, any_eqU t f.2]
theorem mem_eqAt {A : Around} {s : Shared} {x : V} {v : Value} (rx : RelV x v) (fx : flatV x = true) : ∀ {xs : List V} {us : List Value}, Vals xs us → xs.all flatV = true → ∀ u ∈ us, SeqAt.EqAt A s u v (eqU x u)
  | _, _, .nil, _ => fun u hu => by cases hu
  | y :: xs, u :: us, .cons r t, f => fun u' hu => by
    rw [List.all_cons, Bool.and_eq_true] at f
    rcases List.mem_cons.mp hu with rfl | hu
    · rw [eqU_of r f.1]; exact eqAt_V r rx f.1 fx
    · exact mem_eqAt rx fx t f.2 u' hu
noncomputable def inV (x : V) (xs : List V) : Bool := xs.any fun y => eqV y x
noncomputable def rIn (K : PySem.W.Frag) (neg : Bool) : R2 := fun x y H Q => ∃ p xs, y = .ref p ∧ (SqL K H p xs ∨ SqT K H p xs) ∧ flatV x = true ∧ xs.all flatV = true ∧ Q (.bl (if neg then !inV x xs else inV x xs)) H
theorem op_in_seq : OpR X (compareOp .In) (rIn X.K false) := by
  intro pins s σ H x y v u Q I rx ry h
  obtain ⟨p, xs, rfl, hq, fx, fs, q⟩ := h
  cases ry
  rcases hq with hq | hq
  · obtain ⟨its, r, pl, hz⟩ := I.list hq
    refine SeqAt.in_listAt (eqU x) pl.isList (fun w hw => mem_eqAt rx fx r fs w (by simpa using hw)) ⟨.bl _, H, I, rfl, ?_⟩
    rw [show its.toArray.any (eqU x) = its.any (eqU x) by simp, any_eqU r fs]
    exact q
  · obtain ⟨its, r, pl, hz⟩ := I.tuple hq
    refine SeqAt.in_tupleAt (eqU x) pl (fun w hw => mem_eqAt rx fx r fs w (by simpa using hw)) ⟨.bl _, H, I, rfl, ?_⟩
    rw [show its.toArray.any (eqU x) = its.any (eqU x) by simp, any_eqU r fs]
    exact q
theorem op_notIn_seq : OpR X (compareOp .NotIn) (rIn X.K true) := by
  intro pins s σ H x y v u Q I rx ry h
  obtain ⟨p, xs, rfl, hq, fx, fs, q⟩ := h
  cases ry
  rcases hq with hq | hq
  · obtain ⟨its, r, pl, hz⟩ := I.list hq
    refine SeqAt.notIn_listAt (eqU x) pl.isList (fun w hw => mem_eqAt rx fx r fs w (by simpa using hw)) ⟨.bl _, H, I, rfl, ?_⟩
    rw [show its.toArray.any (eqU x) = its.any (eqU x) by simp, any_eqU r fs]
    exact q
  · obtain ⟨its, r, pl, hz⟩ := I.tuple hq
    refine SeqAt.notIn_tupleAt (eqU x) pl (fun w hw => mem_eqAt rx fx r fs w (by simpa using hw)) ⟨.bl _, H, I, rfl, ?_⟩
    rw [show its.toArray.any (eqU x) = its.any (eqU x) by simp, any_eqU r fs]
    exact q
theorem call_len_seq : CallR X (.builtin "len") (fun xs H Q => ∃ p ys, xs = [.ref p] ∧ (SqL X.K H p ys ∨ SqT X.K H p ys) ∧ Q (.int ys.length) H) := by
  intro pins s σ H xs us Q I r h
  obtain ⟨p, ys, rfl, hq, q⟩ := h
  obtain ⟨u, rfl, rx⟩ := vals1 r
  cases rx
  have hn := line63
  rcases hq with hq | hq
  · obtain ⟨its, r', pl, hz⟩ := I.list hq
    have hlen := r'.length
    exact Calls.call_len_list pl.isList (by simp only [List.size_toArray] <;> omega) ⟨.int ys.length, H, I.tok _, ⟨s.toks + 1, by rw [List.size_toArray, hlen]⟩, q⟩
  · obtain ⟨its, r', pl, hz⟩ := I.tuple hq
    have hlen := r'.length
    exact len_tuple pl (by simp only [List.size_toArray] <;> omega) ⟨.int ys.length, H, I.tok _, ⟨s.toks + 1, by rw [List.size_toArray, hlen]⟩, q⟩
theorem call_len_str : CallR X (.builtin "len") (fun xs H Q => ∃ z, xs = [.str z] ∧ z.length ≤ sizeLine ∧ Q (.int z.length) H) := by
  intro pins s σ H xs us Q I r h
  obtain ⟨z, rfl, hz, q⟩ := h
  obtain ⟨u, rfl, t, rfl⟩ := vals1 r
  have hn := line63
  exact len_str (by omega) ⟨.int z.length, H, I.tok _, ⟨_, rfl⟩, q⟩
theorem call_tuple_of : CallR X (.type "tuple") (fun xs H Q => ∃ p ys, xs = [.ref p] ∧ ((SqL X.K H p ys ∧ ∀ l, H l = none → Q (.ref l) (upd H l (.tup ys))) ∨ (SqT X.K H p ys ∧ Q (.ref p) H))) := by
  intro pins s σ H xs us Q I r h
  obtain ⟨p, ys, rfl, h⟩ := h
  obtain ⟨u, rfl, rx⟩ := vals1 r
  cases rx
  rcases h with ⟨hq, q⟩ | ⟨hq, q⟩
  · obtain ⟨its, r', pl, hz⟩ := I.list hq
    have hlen := r'.length
    refine call_tuple_list pl.isList (fun h' kp => ?_) (by simp only [List.size_toArray] <;> omega)
    have I1 : Inv X pins σ H { s with heap := h' } := I.kept (t' := s.toks) kp
    have I2 : Inv X pins σ (upd H h'.objs.size (.tup ys)) { s with heap := h'.push { cls := .type "tuple", data := .seq its.toArray } } :=
      I1.laid (t' := s.toks) (fun b o e => Heap.get?_push_of_some _ e) (Nat.le_refl _) (show ObjOk X.prog X.w _ _ _ (.tup ys) from ⟨hz, its, r', TupN.new _ _⟩)
    exact ⟨.ref h'.objs.size, _, I2, rfl, q _ (I1.hok.fresh (Nat.le_refl _))⟩
  · obtain ⟨its, r', pl, hz⟩ := I.tuple hq
    exact call_tuple_same pl ⟨.ref p, H, I, rfl, q⟩

noncomputable def tyV (K : PySem.W.Frag) (T : String) (x : V) (H : Hp) : Prop := match x with
  | .str _ => T = "str"
  | .int _ => T = "int"
  | .ref p => (T = "list" ∧ ∃ xs, SqL K H p xs) ∨ (T = "tuple" ∧ ∃ o, K.lookup p = some o ∧ o.cls = .type "tuple" ∧ o.dict = none) ∨
      (T = "dict" ∧ ((∃ kvs, H p = some (.dK kvs)) ∨ ∃ kvs, H p = some (.dT kvs))) ∨ (T = "set" ∧ ∃ S n, H p = some (.set S n))
  | _ => False
theorem tyV_is {pins : List (Addr × Obj)} {σ : St} {H : Hp} {s : Shared} {T : String} {x : V} {v : Value} (I : Inv X pins σ H s) (r : RelV x v) (ty : tyV X.K T x H) :
    s.TypeIs v T ∧ ∀ a, v = .ref a → ∃ ob, s.heap.get? a = some ob ∧ ob.dict = none := by
  cases x with
  | str z =>
    obtain ⟨t, rfl⟩ := r
    cases (show T = "str" from ty)
    exact ⟨typeIs_str s z t, fun _ e => nomatch e⟩
  | int i =>
    obtain ⟨t, rfl⟩ := r
    cases (show T = "int" from ty)
    exact ⟨typeIs_int s i t, fun _ e => nomatch e⟩
  | ref p =>
    cases r
    rcases ty with ⟨rfl, xs, hq⟩ | ⟨rfl, o, hk, hc, hd⟩ | ⟨rfl, hk⟩ | ⟨rfl, S, n, hk⟩
    · obtain ⟨its, _, pl, _⟩ := I.list hq
      refine ⟨pl.isList.typeIs, fun a e => ?_⟩
      cases e
      obtain ⟨o, n, e, c, hd, _⟩ := pl
      exact ⟨o, e, hd⟩
    · refine ⟨⟨o, I.kIn p o hk, hc⟩, fun a e => ?_⟩
      cases e
      exact ⟨o, I.kIn _ o hk, hd⟩
    · have z : ∃ o, s.heap.get? p = some o ∧ o.ExactDict := by
        rcases hk with ⟨kvs, hk⟩ | ⟨kvs, hk⟩
        · obtain ⟨_, _, _, _, o, _, _, e, ex, _⟩ := I.hok p _ hk
          exact ⟨o, e, ex⟩
        · obtain ⟨_, _, _, _, o, _, _, e, ex, _⟩ := I.hok p _ hk
          exact ⟨o, e, ex⟩
      obtain ⟨o, e, ex⟩ := z
      refine ⟨⟨o, e, ex.1⟩, fun a e2 => ?_⟩
      cases e2
      exact ⟨o, e, ex.2.1⟩
    · obtain ⟨o, _, _, _, e, ex, _⟩ := I.hok p _ hk
      refine ⟨⟨o, e, ex.1⟩, fun a e2 => ?_⟩
      cases e2
      exact ⟨o, e, ex.2.1⟩
  | _ => exact False.elim ty
noncomputable def tBM (K : PySem.W.Frag) (T : String) (r : V → List V → Hp → VK → Prop) (to : TE) (t : TA) : TE := fun σ H Q => to σ H fun x H1 => tyV K T x H1 ∧ t σ H1 fun xs H2 => r x xs H2 Q
variable {o e : Expr} {es : List Expr} {to : TE} {t : TA} {name : Str} {apos cpos : Pos} {T id : String} {r : V → List V → Hp → VK → Prop}
theorem pe_bm (pa : PlainAttrs T) (slot : Slot T name id) (hty : typeOf (.builtin id) = pure (.type "method_descriptor")) (hm : MtR X id r) (ho : PE X o to) (ha : PA X (e :: es) t)
    (hbase : attributeBase o name X.env (eval o X.env) = eval o X.env := by rfl)
    (hfew : ((backTo cpos (starEach (e :: es) X.env)).all (fun x => !x.1) && (backToKw cpos (keywordEach [] X.env)).all (fun x => x.1.isSome)
      && decide ((e :: es).length + ([] : List Keyword).length + (if ([] : List Keyword).isEmpty then 0 else 1) < 30)) = true := by rfl)
    (hline : (apos.endLine == cpos.line) = true := by rfl) (hs : starEach (e :: es) X.env = (false, eval e X.env) :: starEach es X.env := by rfl) (hplain : (backTo cpos (starEach es X.env)).any (·.1) = false := by rfl) :
    PE X (.Call (.Attribute o name apos) (e :: es) [] cpos) (tBM X.K T r to t) := by
  intro pins s σ H Q I h
  refine wpAny_Call_method_late hbase hfew hline rfl (thn (ho pins s σ H _ I h) fun v s1 ⟨x, H1, I1, r1, ty, q1⟩ => ?_)
  obtain ⟨h1, h2⟩ := tyV_is I1 r1 ty
  refine ⟨T, id, pa, slot, hty, h1, h2, ?_⟩
  have hA := ha cpos pins s1 σ H1 _ I1 q1
  rw [hs] at hA ⊢
  refine Calls.callWith_builtin (by show (false || (backTo cpos (starEach es X.env)).any (·.1)) = false; rw [hplain] <;> rfl) (Calls.evalArgs_plain ?_)
  exact thn hA fun us s2 ⟨vs, H2, I2, r2, q2⟩ => hm pins s2 σ H2 x vs v us Q I2 r1 r2 q2
end
end L2

namespace L2
open PySem PySem.Spec PyProof.Rows

noncomputable def MtM (X : Cx) (id : String) (r : V → List V → Hp → VK → Prop) : Prop :=
  ∀ (pins : List (Addr × Obj)) (s : Shared) (σ : St) (H : Hp) (x : V) (xs : List V) (v : Value) (us : List Value) (Q : VK), Inv X pins σ H s → RelV x v → Vals xs us → r x xs H Q →
    wpAny (model X.prog X.w) X.A (call (.builtin id) (v :: us)) (EP X pins σ Q) X.xe s

theorem Vals.one : ∀ {x : V} {us : List Value}, Vals [x] us → ∃ u, us = [u] ∧ RelV x u
  | _, _, .cons r .nil => ⟨_, rfl, r⟩
section
variable {X : Cx} {pins : List (Addr × Obj)} {σ : St} {H : Hp} {s : Shared} {l b : Addr} {xs ys zs : List V}

theorem Inv.lset {its its' : List Value} {n : Nat} {f : Array Value → Array Value} {t' : Nat} (I : Inv X pins σ H s) (hH : H l = some (.lst xs))
    (e : s.heap.get? l = some { cls := .type "list", data := .seq its.toArray n }) (hf : f its.toArray = its'.toArray) (hv : Vals ys its') (hz : ys.length ≤ sizeLine) :
    Inv X pins σ (upd H l (.lst ys)) { s with heap := s.heap.update l (Obj.mapSeq f), toks := t' } := by
  have q := PySem.IsL.update e f
  rw [hf] at q
  refine I.write (x := l) (e := l) (by rw [hH]; exact trivial) (.inl rfl) (fun b' u hb hu => (Heap.get?_update_other s.heap (Obj.mapSeq f) (Ne.symm hb)).trans hu) ⟨_, q⟩ ?_
  exact ⟨hz, its', _, hv, q⟩
theorem Inv.lnew {its : List Value} {t' : Nat} (I : Inv X pins σ H s) (hv : Vals ys its) (hz : ys.length ≤ sizeLine) :
    Inv X pins σ (upd H s.heap.objs.size (.lst ys)) { s with heap := s.heap.push { cls := .type "list", data := .seq its.toArray }, toks := t' } :=
  I.laid (fun _ _ q => Heap.get?_push_of_some _ q) (Nat.le_refl _) ⟨hz, its, 0, hv, Heap.get?_push_size _ rfl⟩
theorem Inv.fresh (I : Inv X pins σ H s) : H s.heap.objs.size = none := I.hok.fresh (Nat.le_refl _)
theorem Inv.lstM (I : Inv X pins σ H s) (hH : H l = some (.lst xs)) : xs.length ≤ sizeLine ∧ ∃ (its : List Value) (n : Nat), Vals xs its ∧ xs.length = its.length ∧ s.heap.get? l = some { cls := .type "list", data := .seq its.toArray n } := by
  obtain ⟨z, its, n, r, e⟩ := I.hok l _ hH
  exact ⟨z, its, n, r, r.length, e⟩

end

section
variable {X : Cx}

noncomputable def rAppend : V → List V → Hp → VK → Prop := fun x vs H Q => ∃ l xs y, x = .ref l ∧ vs = [y] ∧ H l = some (.lst xs) ∧ xs.length < sizeLine ∧ Q .non (upd H l (.lst (xs ++ [y])))
theorem mt_append : MtM X "list.append" rAppend := by
  intro pins s σ H x vs v us Q I rx rv h
  obtain ⟨l, xs, y, rfl, rfl, hH, hz, q⟩ := h
  cases rx
  obtain ⟨u, rfl, ru⟩ := rv.one
  obtain ⟨z, its, n, r, hl, e⟩ := I.lstM hH
  refine call_meets F.slot_list_append ⟨_, e, rfl⟩ F.entry_list_append (F.args_list_append_2 _ _) (PySem.list_append l its.toArray n u (by rw [List.size_toArray]; omega)) ⟨e, ?_⟩
  refine ⟨.non, _, I.lset (its' := its ++ [u]) hH e (by simp) (r.append (.cons ru .nil)) ?_, rfl, q⟩
  rw [List.length_append, List.length_singleton]
  omega

theorem len_rep {α : Type} (xs : List α) (k : Nat) : (List.replicate k xs).flatten.length = k * xs.length := by
  induction k with
  | zero => simp
  | succ k ih => rw [List.replicate_succ, List.flatten_cons, List.length_append, ih, Nat.succ_mul, Nat.add_comm]
end


end L2

namespace L2
open PySem PySem.Spec PyProof.Rows

section
variable {κ : Type} [DecidableEq κ]
noncomputable def valV (kvs : List (κ × V)) (k : κ) : Option V := (kvs.find? fun kv => decide (kv.1 = k)).map (·.2)
noncomputable def putK (kvs : List (κ × V)) (k : κ) (v : V) : List (κ × V) :=
  if (kvs.any fun kv => decide (kv.1 = k)) = true then kvs.map (fun kv => if kv.1 = k then (kv.1, v) else kv) else kvs ++ [(k, v)]
theorem valV_pos {p : κ × V} {r : List (κ × V)} {k : κ} (e : p.1 = k) : valV (p :: r) k = some p.2 := by simp [valV, List.find?_cons, e]
theorem valV_neg {p : κ × V} {r : List (κ × V)} {k : κ} (e : ¬ p.1 = k) : valV (p :: r) k = valV r k := by simp [valV, List.find?_cons, e]
theorem valV_any (k : κ) : ∀ kvs : List (κ × V), (kvs.any fun kv => decide (kv.1 = k)) = (valV kvs k).isSome
  | [] => rfl
  | p :: r => by
    rw [List.any_cons]
    by_cases e : p.1 = k
    · simp only [valV_pos e, decide_eq_true e, Bool.true_or, Option.isSome_some]
    · rw [valV_neg e, decide_eq_false e, Bool.false_or]; exact valV_any k r
theorem length_putK (kvs : List (κ × V)) (k : κ) (v : V) : (putK kvs k v).length ≤ kvs.length + 1 := by
  unfold putK
  split
  · rw [List.length_map]; omega
  · rw [List.length_append, List.length_cons, List.length_nil]; omega
theorem RelO.isSome_eq {o : Option V} {u : Option Value} (r : RelO o u) : o.isSome = u.isSome := by
  cases o with
  | none => cases u with
    | none => rfl
    | some _ => exact (show False from r).elim
  | some _ => cases u with
    | none => exact (show False from r).elim
    | some _ => rfl
theorem KV.val {kvs : List (κ × V)} {vs : List (κ × Value)} (r : KV kvs vs) (k : κ) : RelO (valV kvs k) (valueAt vs k) := by
  unfold KV at r
  induction r with
  | nil => exact True.intro
  | @cons p q ps qs h t ih =>
    obtain ⟨h1, h2⟩ := h
    by_cases e : p.1 = k
    · have e' : q.1 = k := h1.symm.trans e
      have b : valueAt (q :: qs) k = some q.2 := by simp [valueAt, List.find?_cons, e']
      rw [valV_pos e, b]; exact h2
    · have e' : ¬ q.1 = k := fun z => e (h1.trans z)
      have b : valueAt (q :: qs) k = valueAt qs k := by simp [valueAt, List.find?_cons, e']
      rw [valV_neg e, b]; exact ih
theorem KV.any {kvs : List (κ × V)} {vs : List (κ × Value)} (r : KV kvs vs) (k : κ) : (kvs.any fun kv => decide (kv.1 = k)) = vs.any fun kv => decide (kv.1 = k) := by
  unfold KV at r
  induction r with
  | nil => rfl
  | cons h t ih => rw [List.any_cons, List.any_cons, ih, h.1]
theorem KV.repl {kvs : List (κ × V)} {vs : List (κ × Value)} (r : KV kvs vs) (k : κ) {y : V} {u : Value} (ry : RelV y u) :
    KV (kvs.map fun kv => if kv.1 = k then (kv.1, y) else kv) (vs.map fun kv => if kv.1 = k then (kv.1, u) else kv) := by
  unfold KV at r ⊢
  induction r with
  | nil => exact .nil
  | @cons p q ps qs h t ih =>
    rw [List.map_cons, List.map_cons]
    refine .cons ?_ ih
    obtain ⟨h1, h2⟩ := h
    by_cases e : p.1 = k
    · rw [if_pos e, if_pos (h1.symm.trans e)]; exact ⟨h1, ry⟩
    · rw [if_neg e, if_neg (fun z => e (h1.trans z))]; exact ⟨h1, h2⟩
theorem KV.put {kvs : List (κ × V)} {vs : List (κ × Value)} (r : KV kvs vs) (k : κ) {y : V} {u : Value} (ry : RelV y u) : KV (putK kvs k y) (stored vs k u) := by
  unfold putK stored
  rw [r.any k]
  by_cases e : (vs.any fun kv => decide (kv.1 = k)) = true
  · rw [if_pos e, if_pos e]; exact r.repl k ry
  · rw [if_neg e, if_neg e]; exact Paired.snoc r ⟨rfl, ry⟩
theorem KV.keys {kvs : List (κ × V)} {vs : List (κ × Value)} (r : KV kvs vs) : kvs.map (·.1) = vs.map (·.1) := by
  unfold KV at r
  induction r with
  | nil => rfl
  | cons h t ih => rw [List.map_cons, List.map_cons, ih, h.1]
theorem KV.length {kvs : List (κ × V)} {vs : List (κ × Value)} (r : KV kvs vs) : kvs.length = vs.length := Paired.length r
end


theorem kV_is {P : Program} {w : World} {k : Key} {u : Value} (r : RelV (kV k) u) : (mixKind P w).is k u = true := by
  cases k with
  | inl i => obtain ⟨t, e⟩ := (show ∃ t, u = Value.int i t from r); subst e; exact mixKind_int P w i t
  | inr x => obtain ⟨t, e⟩ := (show ∃ t, u = Value.str x t from r); subst e; exact mixKind_str P w x t
theorem items_are {P : Program} {w : World} : ∀ {ks : List Key} {us : List Value}, Vals (ks.map kV) us → ItemsAre (mixKind P w) ks us
  | [], _, r => by rw [List.map_nil] at r; cases r; exact .nil
  | k :: ks, _, r => by
    rw [List.map_cons] at r
    cases r with
    | cons h t => exact .cons (kV_is h) (items_are t)

noncomputable abbrev KT (H : Hp) : List (List Key × V) → List (List Key × Addr × Value) → Prop := Paired fun p q => p.1 = q.1 ∧ H q.2.1 = some (.tup (p.1.map kV)) ∧ RelV p.2 q.2.2
theorem KT.val {H : Hp} {kvs : List (List Key × V)} {xs : List (List Key × Addr × Value)} (r : KT H kvs xs) (k : List Key) : RelO (valV kvs k) ((atKey xs k).map (·.2)) := by
  induction r with
  | nil => exact True.intro
  | @cons p q ps qs h t ih =>
    obtain ⟨h1, _, h2⟩ := h
    by_cases e : p.1 = k
    · have e' : q.1 = k := h1.symm.trans e
      have b : atKey (q :: qs) k = some q.2 := by simp [atKey, List.find?_cons, e']
      rw [valV_pos e, b]; exact h2
    · have e' : ¬ q.1 = k := fun z => e (h1.trans z)
      have b : atKey (q :: qs) k = atKey qs k := by simp [atKey, List.find?_cons, e']
      rw [valV_neg e, b]; exact ih
theorem KT.repl {H : Hp} {kvs : List (List Key × V)} {xs : List (List Key × Addr × Value)} (r : KT H kvs xs) (k : List Key) {y : V} {u : Value} (ry : RelV y u) :
    KT H (kvs.map fun kv => if kv.1 = k then (kv.1, y) else kv) (xs.map (putAt k u)) := by
  induction r with
  | nil => exact .nil
  | @cons p q ps qs h t ih =>
    rw [List.map_cons, List.map_cons]
    refine .cons ?_ ih
    obtain ⟨h1, h2, h3⟩ := h
    unfold putAt
    by_cases e : p.1 = k
    · rw [if_pos e, if_pos (h1.symm.trans e)]; exact ⟨h1, h2, ry⟩
    · rw [if_neg e, if_neg (fun z => e (h1.trans z))]; exact ⟨h1, h2, h3⟩
theorem KT.put {H : Hp} {kvs : List (List Key × V)} {xs : List (List Key × Addr × Value)} (r : KT H kvs xs) (k : List Key) {b : Addr} {y : V} {u : Value} (hb : H b = some (.tup (k.map kV))) (ry : RelV y u) :
    KT H (putK kvs k y) (storedH xs k b u) := by
  have e : (kvs.any fun kv => decide (kv.1 = k)) = (atKey xs k).isSome := by
    rw [valV_any, (r.val k).isSome_eq, Option.isSome_map]
  unfold putK storedH
  rw [e]
  by_cases q : (atKey xs k).isSome = true
  · rw [if_pos q, if_pos q]; exact r.repl k ry
  · rw [if_neg q, if_neg q]; exact Paired.snoc r ⟨rfl, hb, ry⟩
theorem KT.keeps {H H' : Hp} {kvs : List (List Key × V)} {xs : List (List Key × Addr × Value)} (r : KT H kvs xs) (ht : ∀ b ys, H b = some (.tup ys) → H' b = some (.tup ys)) : KT H' kvs xs :=
  Paired.mapP r fun _ _ z => ⟨z.1, ht _ _ z.2.1, z.2.2⟩

section
variable {P : Program} {w : World} {H : Hp} {h : Heap} {a : Addr}
theorem rd_of {u : HO} (ok : HOk P w H h) (e : Rd H a u) : ObjOk P w H h a u := e.ok ok
theorem dk_rd {kvs : List (Key × V)} (ok : HOk P w H h) (e : Rd H a (.dK kvs)) : kvs.length ≤ sizeLine ∧ (a == sysModules) = false ∧ ∃ vs, KV kvs vs ∧ h.DictOf (mixKind P w) a vs :=
  show ObjOk P w H h a (.dK kvs) from rd_of ok e
theorem dk_of {kvs : List (Key × V)} (ok : HOk P w H h) (e : H a = some (.dK kvs)) : kvs.length ≤ sizeLine ∧ (a == sysModules) = false ∧ ∃ vs, KV kvs vs ∧ h.DictOf (mixKind P w) a vs := dk_rd ok (.inl e)
theorem key_of {ks : List Key} (ok : HOk P w H h) (e : H a = some (.tup (ks.map kV))) : (tupleKind (mixKind P w)).is h ks a := by
  obtain ⟨_, its, r, ⟨o, h1, h2, n, h3⟩, _⟩ := (show ObjOk P w H h a (.tup (ks.map kV)) from ok a _ e)
  exact ⟨o, its.toArray, n, h1, h2, h3, by simpa using items_are r⟩
theorem dt_rd {kvs : List (List Key × V)} (ok : HOk P w H h) (e : Rd H a (.dT kvs)) : kvs.length ≤ sizeLine ∧ (a == sysModules) = false ∧
    ∃ xs, KT H kvs xs ∧ h.DictOfH (tupleKind (mixKind P w)) a xs := by
  obtain ⟨z, y, xs, r, o, es, ep, h1, h2, h3, h4, h5⟩ := (show ObjOk P w H h a (.dT kvs) from rd_of ok e)
  refine ⟨z, y, xs, r, o, es, ep, h1, h2, h3, h4, fun x hx => ?_, h5⟩
  have all : ∀ {l : List (List Key × V)} {m : List (List Key × Addr × Value)}, KT H l m → ∀ x ∈ m, (tupleKind (mixKind P w)).is h x.1 x.2.1 := by
    intro l m q
    induction q with
    | nil => intro x hx; exact nomatch hx
    | @cons p q ps qs hq t ih =>
      intro x hx
      rcases List.mem_cons.mp hx with e | hx
      · subst e
        exact key_of ok (by rw [← hq.1]; exact hq.2.1)
      · exact ih x hx
  exact all r x hx
theorem dt_of {kvs : List (List Key × V)} (ok : HOk P w H h) (e : H a = some (.dT kvs)) : kvs.length ≤ sizeLine ∧ (a == sysModules) = false ∧
    ∃ xs, KT H kvs xs ∧ h.DictOfH (tupleKind (mixKind P w)) a xs := dt_rd ok (.inl e)
end

noncomputable def DGet (H : Hp) (a : Addr) (y : V) (r : Option V) : Prop :=
  (∃ kvs k, Rd H a (.dK kvs) ∧ y = kV k ∧ r = valV kvs k) ∨ ∃ kvs k b, Rd H a (.dT kvs) ∧ y = .ref b ∧ H b = some (.tup (k.map kV)) ∧ r = valV kvs k
noncomputable def DPut (H : Hp) (a : Addr) (y v : V) (H' : Hp) : Prop :=
  (∃ kvs k, H a = some (.dK kvs) ∧ y = kV k ∧ kvs.length < sizeLine ∧ H' = upd H a (.dK (putK kvs k v))) ∨
  ∃ kvs k b, H a = some (.dT kvs) ∧ y = .ref b ∧ H b = some (.tup (k.map kV)) ∧ kvs.length < sizeLine ∧ H' = upd H a (.dT (putK kvs k v))
theorem DGet.k {H : Hp} {a : Addr} {kvs : List (Key × V)} {k : Key} (e : H a = some (.dK kvs)) : DGet H a (kV k) (valV kvs k) := .inl ⟨kvs, k, .inl e, rfl, rfl⟩
theorem DPut.k {H : Hp} {a : Addr} {kvs : List (Key × V)} {k : Key} {v : V} (e : H a = some (.dK kvs)) (hl : kvs.length < sizeLine) : DPut H a (kV k) v (upd H a (.dK (putK kvs k v))) := .inl ⟨kvs, k, e, rfl, hl, rfl⟩
section
variable {X : Cx} {pins : List (Addr × Obj)} {σ : St} {H : Hp} {s : Shared} {a : Addr} {y v : V} {u r : Value} {o : Option V} {A : Around} {E : Value → Shared → Prop}

theorem Inv.big (I : Inv X pins σ H s) : sysModules < s.heap.objs.size := by
  have h : mainGlobals < s.heap.objs.size := (I.mod.glob.keeps I.bk).lt
  exact Nat.lt_trans (by decide) h

theorem d_getItem {Q : Value → Shared → Prop} (hu : A.units + 1 < cLine) (I : Inv X pins σ H s) (g : DGet H a y (some v)) (ry : RelV y u) (h : ∀ w' s', Inv X pins σ H s' → RelV v w' → Q w' s') :
    wpAny (model X.prog X.w) A (getItem (.ref a) u) Q E s := by
  rcases g with ⟨kvs, k, e, ey, l⟩ | ⟨kvs, k, b, e, ey, eb, l⟩
  · subst ey
    obtain ⟨z, hd, vs, rel, dd⟩ := dk_rd I.hok e
    obtain ⟨w', hw, rw'⟩ := RelO.some_of (v := v) (o := valueAt vs k) (by rw [l]; exact rel.val k)
    exact wpAny_getItem_of (kV_is ry) dd.mapOf hw (h w' _ (I.tok _) rw')
  · subst ey
    cases (show u = Value.ref b from ry)
    obtain ⟨z, hd, xs, rel, dd⟩ := dt_rd I.hok e
    obtain ⟨w', hw, rw'⟩ := RelO.some_of (v := v) (o := (atKey xs k).map (·.2)) (by rw [l]; exact rel.val k)
    obtain ⟨p, hp, hp2⟩ := Option.map_eq_some_iff.mp hw
    refine wpAny_getItem_heap (tupleKind_room_in1 hu) (key_of I.hok eb) dd hp ?_
    rw [hp2]
    exact h w' _ (I.tok _) rw'
theorem d_in {Q : Value → Shared → Prop} (hu : A.units + 1 < cLine) (I : Inv X pins σ H s) (g : DGet H a y o) (ry : RelV y u) (h : ∀ s', Inv X pins σ H s' → Q (.bool o.isSome) s') :
    wpAny (model X.prog X.w) A (compareOp .In u (.ref a)) Q E s := by
  rcases g with ⟨kvs, k, e, ey, l⟩ | ⟨kvs, k, b, e, ey, eb, l⟩
  · subst ey
    obtain ⟨z, hd, vs, rel, dd⟩ := dk_rd I.hok e
    refine wpAny_in_of (kV_is ry) hd dd.mapOf ?_
    rw [← (rel.val k).isSome_eq, ← l]
    exact h _ (I.tok _)
  · subst ey
    cases (show u = Value.ref b from ry)
    obtain ⟨z, hd, xs, rel, dd⟩ := dt_rd I.hok e
    refine wpAny_in_heap (tupleKind_room_in1 hu) (key_of I.hok eb) hd dd ?_
    have q := (rel.val k).isSome_eq
    rw [Option.isSome_map] at q
    rw [← q, ← l]
    exact h _ (I.tok _)
theorem d_write {h' : Heap} {t' : Nat} {ob : HO} (I : Inv X pins σ H s) (mu : Mut (H a)) (hs : Heap.SameBut a s.heap h') (he : ∃ q, h'.get? a = some q) (new : ObjOk X.prog X.w (upd H a ob) h' a ob) :
    Inv X pins σ (upd H a ob) { s with heap := h', toks := t' } :=
  I.write (x := a) (e := a) mu (.inl rfl) (fun b q hb z => (hs.2 b hb).trans z) he new
theorem dk_new {P : Program} {w : World} {H' : Hp} {h' : Heap} {kvs : List (Key × V)} {vs : List (Key × Value)} (z : kvs.length ≤ sizeLine) (hd : (a == sysModules) = false) (rel : KV kvs vs) (dd : h'.DictOf (mixKind P w) a vs) :
    ObjOk P w H' h' a (.dK kvs) := ⟨z, hd, vs, rel, dd⟩
theorem d_setItem {H' : Hp} {Q : Unit → Shared → Prop} (hu : A.units + 1 < cLine) (I : Inv X pins σ H s) (g : DPut H a y v H') (ry : RelV y u) (rv : RelV v r) (h : ∀ s', Inv X pins σ H' s' → Q () s') :
    wpAny (model X.prog X.w) A (setItem (.ref a) u r) Q E s := by
  rcases g with ⟨kvs, k, e, ey, l, eH⟩ | ⟨kvs, k, b, e, ey, eb, l, eH⟩
  · subst ey eH
    obtain ⟨z, hd, vs, rel, dd⟩ := dk_of I.hok e
    have hz : vs.length ≤ sizeLine := by rw [← rel.length]; exact z
    have hl : (putK kvs k v).length ≤ sizeLine := by have := length_putK kvs k v; omega
    refine wpAny_setItem_pairs (hsz := hz) (kV_is ry) dd fun h' dd' hs => h _ ?_
    have he : ∃ q, h'.get? a = some q := let ⟨q, _, _, hq, _⟩ := dd'; ⟨q, hq⟩
    exact d_write I (by rw [e]; exact True.intro) hs he (dk_new hl hd (rel.put k rv) dd')
  · subst ey eH
    cases (show u = Value.ref b from ry)
    obtain ⟨z, hd, xs, rel, dd⟩ := dt_of I.hok e
    have hz : xs.length ≤ sizeLine := by rw [← Paired.length rel]; exact z
    have hl : (putK kvs k v).length ≤ sizeLine := by have := length_putK kvs k v; omega
    refine wpAny_setItem_heap (hsz := hz) (tupleKind_room_in1 hu) (key_of I.hok eb) dd fun h' dd' hs => h _ ?_
    obtain ⟨q, es, ep, hq, h2, h3, h4, _, h5⟩ := dd'
    refine d_write I (by rw [e]; exact True.intro) hs ⟨q, hq⟩ ⟨hl, hd, _, (rel.put k eb rv).keeps fun c ys ec => ?_, q, es, ep, hq, h2, h3, h4, h5⟩
    rw [upd_ne (ne_of ec e (fun z => nomatch z))]
    exact ec
end



noncomputable def NoSl (i : Expr) : Prop := ∀ ov iv, subscripted i false ov iv = operate [ov, iv] (getItem ov iv)
theorem subD_of {prog : Program} {w : World} {A : Around} {E : Value → Shared → Prop} {s : Shared} {env : Env} {value slice : Expr} {pos : Pos} {T id : String} {Q : Value → Shared → Prop}
    (hl : typeLookup (.type T) "__getitem__" = pure (some (.builtin id))) (hs : NoSl slice)
    (h : wpAny (model prog w) A (eval value env) (fun o s₁ => wpAny (model prog w) A (eval slice env) (fun i s₂ => s₂.TypeIs o T ∧ wpAny (model prog w) A (getItem o i) Q E s₂) E s₁) E s) :
    wpAny (model prog w) A (eval (.Subscript value slice pos) env) Q E s := by
  refine Subscript_ (wpAny_mono h (fun o s₁ h₁ => wpAny_mono h₁ (fun i s₂ h₂ => ?_) fun _ _ x => x) fun _ _ x => x)
  obtain ⟨hT, h₂⟩ := h₂
  unfold subscriptTail
  refine wpAny_bind ?_
  rw [getitemInPython_of_ne hT.not_modules]
  refine wpAny_bind (wpAny_specialOf hT hl ?_)
  have fin : wpAny (model prog w) A (subscripted slice false o i) (fun r s₃ => wpAny (model prog w) A (letTemporaryGo value o r >>= fun _ => pure r) Q E s₃) E s₂ := by
    rw [hs o i]
    exact wpAny_operating (wpAny_mono h₂ (fun r s₃ h₃ => wpAny_bind (wpAny_letTemporaryGo (wpAny_pure h₃))) fun _ _ x => x)
  first
    | exact wpAny_pure (wpAny_bind fin)
    | exact wpAny_bind (wpAny_pure (wpAny_bind fin))
    | exact wpAny_bind fin

theorem dict_typeIs {X : Cx} {pins : List (Addr × Obj)} {σ : St} {H : Hp} {s : Shared} {a : Addr} {y : V} {o : Option V} (I : Inv X pins σ H s) (g : DGet H a y o) : s.TypeIs (.ref a) "dict" := by
  rcases g with ⟨kvs, k, e, _, _⟩ | ⟨kvs, k, b, e, _, _, _⟩
  · obtain ⟨_, _, vs, _, dd⟩ := dk_rd I.hok e
    exact dd.typeIs
  · obtain ⟨_, _, xs, _, dd⟩ := dt_rd I.hok e
    exact dd.typeIs
noncomputable def tDGet (td ty : TE) : TE := fun σ H Q => td σ H fun x H1 => ty σ H1 fun y H2 => ∃ a v, x = .ref a ∧ DGet H2 a y (some v) ∧ Q v H2
noncomputable def tDIn (ty td : TE) : TE := fun σ H Q => ty σ H fun y H1 => td σ H1 fun x H2 => ∃ a o, x = .ref a ∧ DGet H2 a y o ∧ Q (.bl o.isSome) H2
noncomputable def sDPut (td ty tv : TE) : TS := fun D σ H => tv σ H fun v H1 => td σ H1 fun x H2 => ty σ H2 fun y H3 => ∃ a H4, x = .ref a ∧ DPut H3 a y v H4 ∧ D.nx σ H4
section
variable {X : Cx} {o i e value : Expr} {pos pos' tpos : Pos} {td ty tv : TE}
theorem pe_dget (hu : X.A.units + 1 < cLine) (ho : PE X o td) (hi : PE X i ty) (hs : NoSl i) : PE X (.Subscript o i pos) (tDGet td ty) := by
  intro pins s σ H Q I h
  refine subD_of PySem.F.slot_dict_getitem.lookup hs (thn (ho pins s σ H _ I h) fun u s1 ⟨x, H1, I1, rx, q1⟩ => thn (hi pins s1 σ H1 _ I1 q1) fun iv s2 ⟨y, H2, I2, ry, a, v, ex, g, q2⟩ => ?_)
  subst ex
  obtain rfl : u = Value.ref a := rx
  exact ⟨dict_typeIs I2 g, d_getItem hu I2 g ry fun w' s3 I3 rw' => ⟨v, H2, I3, rw', q2⟩⟩
theorem pc_din (hu : X.A.units + 1 < cLine) (hi : PE X i ty) (ho : PE X o td) : PC X .In i o (tDIn ty td) := by
  intro pins s σ H Q I h
  refine thn (hi pins s σ H _ I h) fun iv s1 ⟨y, H1, I1, ry, q1⟩ => thn (ho pins s1 σ H1 _ I1 q1) fun u s2 ⟨x, H2, I2, rx, a, ov, ex, g, q2⟩ => ?_
  subst ex
  obtain rfl : u = Value.ref a := rx
  exact d_in hu I2 g ry fun s3 I3 => ⟨.bl ov.isSome, H2, I3, rfl, q2⟩
theorem ps_dput (hu : X.A.units + 1 < cLine) (ho : PE X o td) (hi : PE X i ty) (hv : PE X value tv) (hs : swapsWith value (some (.Subscript o i pos')) pos.line X.env = pure false) :
    PS X (.Assign [.Subscript o i pos'] value pos) (sDPut td ty tv) := by
  intro pins s σ H D I h
  refine wpAny_Assign_Subscript (thn (hv pins s σ H _ I h) fun r s1 ⟨v, H1, I1, rv, q1⟩ => thn (ho pins s1 σ H1 _ I1 q1) fun u s2 ⟨x, H2, I2, rx, q2⟩ => thn (hi pins s2 σ H2 _ I2 q2) fun iv s3 ⟨y, H3, I3, ry, a, H4, ex, g, q3⟩ => ?_) hs
  subst ex
  obtain rfl : u = Value.ref a := rx
  exact d_setItem hu I3 g ry rv fun s4 I4 => ⟨σ, H4, I4, q3⟩
end


theorem dk_empty {P : Program} {w : World} {H : Hp} (h : Heap) (hb : sysModules < h.objs.size) : ObjOk P w H (h.push { cls := .type "dict", data := .dict #[] }) h.objs.size (.dK []) :=
  ⟨Nat.zero_le _, beq_eq_false_iff_ne.mpr (Ne.symm (Nat.ne_of_lt hb)), [], .nil, Heap.DictOf.new h⟩
noncomputable def tDNewK : TE := fun _ H Q => ∀ p, H p = none → Q (.ref p) (upd H p (.dK []))
section
variable {X : Cx} {pos : Pos}
theorem pe_dnewK : PE X (.Dict [] [] pos) tDNewK := fun pins s σ H Q I h =>
  wpAny_Dict_empty ⟨.ref s.heap.objs.size, _, I.laid (a := s.heap.objs.size) (o := .dK []) (t' := s.toks) (fun _ _ q => Heap.get?_push_of_some _ q) (Nat.le_refl _) (dk_empty s.heap I.big), rfl, h _ (I.hok.fresh (Nat.le_refl _))⟩
end





end L2

namespace Att
open PySem PySem.W PySem.Calls PyProof.Rows

theorem ints_of_wellAll {P : Params} {h : Heap} : ∀ (ns : List Int) (vs : List Value), WellAll P h vs (ns.map WData.int) → IntsAre vs ns := by
  intro ns
  induction ns with
  | nil =>
    intro vs w
    rw [List.map_nil] at w
    cases w
    exact .nil
  | cons n ns ih =>
    intro vs w
    rw [List.map_cons] at w
    cases w with
    | cons a b =>
      cases a
      exact .cons _ _ (ih _ b)

theorem script_of {l : OpenLaw} {n : Nat} (hn : l.most = some n) {P : Params} {h : Heap} {args : List WData} {vals : List Value}
    (hpre : l.row.toRowW.claim.pre args = true) (hwl : WellAll P h vals args) :
    ∃ a vs ns, vals = [Value.ref a] ∧ args = [WData.list (ns.map WData.int)] ∧ h.get? a = some { cls := .type "list", data := .seq vs.toArray } ∧ IntsAre vs ns ∧ ns.length ≤ n := by
  have hsh : WShape.hasAll [] args [.list .int] = true := (pre_splitW hpre).1
  have hc : l.pre.holds [] { args := args } = true := (pre_splitW hpre).2
  obtain ⟨d, r, rfl, h1, h2⟩ := hasAllW_cons hsh
  obtain rfl := hasAllW_nil h2
  obtain ⟨xs, rfl, h3⟩ := hasW_list h1
  obtain ⟨ns, rfl⟩ := items_int h3
  have hlen : ns.length ≤ n := by
    unfold OpenLaw.pre at hc
    have h4 : (WTm.not (.lt (.lit (.int (n : Int))) (.len (.arg 0)))).holds [] { args := [.list (ns.map .int)] } = true := by
      have h4 := (holds_andW hc).1
      rw [hn] at h4
      exact h4
    have h5 := condW_of h4 (w_not (w_lt w_lit (w_len_list (w_arg rfl))))
    rw [List.length_map] at h5
    refine Nat.le_of_not_lt fun q => ?_
    have q' : (n : Int) < ((ns.length : Nat) : Int) := by omega
    first
      | (rw [decide_eq_true q'] at h5; exact absurd h5 (by decide))
      | (simp at h5; omega)
  cases hwl with
  | cons w1 w2 =>
    cases w2
    cases w1 with
    | list ho hall => exact ⟨_, _, ns, rfl, rfl, ho, ints_of_wellAll ns _ hall, hlen⟩

theorem post_true (l : OpenLaw) (args : List WData) : l.row.toRowW.claim.post args (.bool true) args = true :=
  postW_of (r := l.row.toRowW) (X := (true == true))
    (show WShape.has [] (.bool true) .bool = true by first | rfl | decide | simp [WShape.has, WShape.arms, WShape.armsAll])
    (show (WTm.eq .res (.lit (.bool true))).value [] { args := args, res := some (.bool true), after := args } = some (.bool (true == true)) from w_eq_bool (w_res rfl) w_lit) rfl

theorem attach_call {l : OpenLaw} {n : Nat} {q : Program} {loose : List Str} {XP : (Str → Option Value) → Heap → Prop} {YP : World → Heap → Prop} {d : DefRec}
    (hn : l.most = some n) (hdf : d.params.defaults = [])
    (call : ∀ (w : World) (s₀ s₁ : Shared) (mg mb : Str → Option Value) (fa : Addr) (o : Obj) (pm cd doc : Value) (a : Addr) (vs : List Value) (ns : List Int),
      Ground q loose [] XP w s₀ mg mb s₁.heap → YP w s₁.heap →
      s₁.heap.get? fa = some o → o.data = .func (docDef d.name d.params d.body d.scope pm cd doc) → s₁.heap.CodeRec cd d.name → mg d.name = some (.ref fa) →
      s₁.heap.get? a = some { cls := .type "list", data := .seq vs.toArray } → IntsAre vs ns → ns.length ≤ n → s₁.gens = #[] →
      codeAny (model l.prog w) callerA (.call (.ref fa) ⟨[.ref a], []⟩) (fun r s' => r = .ok (.ret (.bool true)) ∧ OldK s₁.heap s'.heap ∧ s'.os = s₁.os ∧ AllBare s'.gens) s₁) :
    WalkO q loose XP YP l.row.toRowW d [] (fun f vs => PySem.call f vs) := by
  intro w s₀ s₁ mg mb G Y fa o pm cd doc dV kV ho hd hcd hD hmg hg args vals as hpre hlay hrd hwl hlo
  obtain rfl : dV = .none := Dflts.none hD hdf
  obtain rfl : kV = .none := Dflts.noKw hD
  obtain ⟨a, vs, ns, rfl, rfl, hobj, hints, hlen⟩ := script_of hn hpre hwl
  refine enter_call (codeAny_mono (call w s₀ s₁ mg mb fa o pm cd doc a vs ns G Y ho (fd_plain hd) hcd hmg hobj hints hlen hg) fun r s' hq => ?_)
  obtain ⟨rfl, h2, h3, h4⟩ := hq
  exact ⟨.inl ⟨.bool true, .bool true, [], rfl, fun _ => rfl, .bool true, post_true l _, fun _ => ⟨List.Pairwise.nil, fun _ hm => (nomatch hm)⟩⟩, h2, h3, h4⟩

section
variable {prog : Program} {w : World} {A : Around} {E : Value → Shared → Prop} {s : Shared} {K : Frag}

end
end Att

namespace L2
open PySem PySem.Spec PyProof.Rows

theorem vals_ints : ∀ {vs : List Value} {ns : List Int}, IntsAre vs ns → Vals (ns.map V.int) vs
  | _, _, .nil => .nil
  | _, _, .cons n t h => .cons ⟨t, rfl⟩ (vals_ints h)

noncomputable def Only (H : Hp) : Prop := ∀ b, H b = none ∨ ∃ o xs, H b = some (.frz o (.lst xs))

theorem law_call {P : Program} {w : World} {K : PySem.W.Frag} {mg mb : Str → Option Value} {CX : CXT} {k : Nat} {fa a : Addr} {fd : FuncData} {x : Str} {sp : Sp} {s₁ : Shared} {vs : List Value} {ns : List Int}
    (KX : K.In s₁.heap) (hns : s₁.heap.Ns mainGlobals mg) (hb : s₁.heap.Ns builtinsNs mb) (hbb : ∀ x : Str, x ≠ "__name__" → mb x = bootBuiltins x) (hlim : s₁.heap.NoLimit) (hg : s₁.gens = #[])
    (ha : s₁.heap.get? a = some { cls := .type "list", data := .seq vs.toArray }) (hi : IntsAre vs ns) (hl : ns.length ≤ sizeLine) (hr : Room k callerA)
    (F : ∀ base : Heap, K.In base → base.Ns mainGlobals mg → FnOk P w K mg base CX k fa fd [x] sp) (hbind : ∀ (s : Shared) (u : Value), BindsTo s fd ⟨[u], []⟩ [(x, u)])
    (hsp : ∀ H : Hp, Only H → SqL K H a (ns.map V.int) → sp [.ref a] H (fun v _ => v = .bl true) fun _ _ _ => False)
    (hCX : ∀ H e s', CX [] H s₁ (fun _ _ _ => False) e s' → False) :
    codeAny (model P w) callerA (.call (.ref fa) ⟨[.ref a], []⟩) (fun r s' => r = .ok (.ret (.bool true)) ∧ OldK s₁.heap s'.heap ∧ s'.os = s₁.os ∧ AllBare s'.gens) s₁ := by
  have rv := vals_ints hi
  have lenV := hi.length
  have core : ∀ H : Hp, Only H → SqL K H a (ns.map V.int) → HOk P w H s₁.heap → (∀ b, H b ≠ none → b = a) → (H a ≠ none → K.lookup a = none) →
      codeAny (model P w) callerA (.call (.ref fa) ⟨[.ref a], []⟩) (fun r s' => r = .ok (.ret (.bool true)) ∧ OldK s₁.heap s'.heap ∧ s'.os = s₁.os ∧ AllBare s'.gens) s₁ := by
    intro H hO hS hok hA hK
    have base_of : ∀ {b : Addr} {o : Obj}, s₁.heap.get? b = some o → H b = none → (hidT s₁.heap H).get? b = some o := fun e n => hidT_get e n
    have noA : ∀ {b : Addr} {o : Obj} {es : Array DictEntry} {ep : Nat}, s₁.heap.get? b = some o → o.data = .dict es ep → H b = none := fun {b o es ep} e d => by
      cases q : H b with
      | none => rfl
      | some u =>
        have e' : b = a := hA b (by rw [q]; simp)
        subst e'
        rw [ha] at e; cases e
        have d' : Data.seq vs.toArray _ = Data.dict es ep := d
        cases d'
    have nsK : ∀ {b : Addr} {m : Str → Option Value}, s₁.heap.Ns b m → (hidT s₁.heap H).Ns b m := fun {b m} ⟨o, es, ep, e, d, r⟩ => ⟨o, es, ep, base_of e (noA e d), d, r⟩
    have hKb : K.In (hidT s₁.heap H) := fun b o e => base_of (KX b o e) (by
      cases q : H b with
      | none => rfl
      | some u =>
        have e' : b = a := hA b (by rw [q]; simp)
        subst e'
        rw [hK (by rw [q]; simp)] at e; cases e)
    have hM : Mod K mg (hidT s₁.heap H) := ⟨hKb, nsK hns, ⟨mb, nsK hb, hbb⟩, let ⟨mc, h1, h2⟩ := hlim; ⟨mc, nsK h1, h2⟩⟩
    have e0 : Env0 P w K mg (hidT s₁.heap H) callerA [] s₁ H := ⟨rfl, hM, fun b o e => of_hidT e, Nat.le_of_eq (hidT_size _ _), trivial, fun b hb => absurd (show b ∈ ([] : List Addr) from hb) (by simp), hok, .of_eq hg⟩
    refine codeAny_mono ((F _ hKb (nsK hns)).run callerA [] s₁ H ⟨[.ref a], []⟩ [.ref a] [.ref a] _ _ hr e0 (hbind s₁ (.ref a)) (.cons rfl .nil) (hsp H hO hS)) fun r s' h => ?_
    cases r with
    | error e => exact (hCX H e s' h).elim
    | ok fl =>
      cases fl with
      | next => exact False.elim h
      | brk => exact False.elim h
      | cont => exact False.elim h
      | ret u =>
        obtain ⟨v, H', os, bare, un, hok', r', q⟩ := h
        have q' : v = .bl true := q
        subst q'
        obtain rfl : u = Value.bool true := r'
        refine ⟨rfl, OldK.of_keep fun b o e => ?_, os, bare⟩
        cases q : H b with
        | none => exact un.keep b o e q (by intro z; exact absurd (show b ∈ ([] : List Addr) from z) (by simp)) (by simp)
        | some u =>
          rcases hO b with z | ⟨ob, xs, z⟩
          · rw [q] at z; cases z
          · have z2 := un.frzs b ob _ z
            obtain ⟨e1, _⟩ := hok b _ z
            obtain ⟨e2, _⟩ := hok' b _ z2
            rw [e] at e1; cases e1
            exact e2
  cases hk : K.lookup a with
  | some o =>
    have e := KX a o hk
    rw [ha] at e
    cases e
    refine core (fun _ => none) (fun _ => .inl rfl) (.inr ⟨_, vs.toArray, _, hk, rfl, rfl, rfl, by rw [List.size_toArray, lenV]; exact hl, by simpa using rv⟩) (fun b u z => by have z' : (none : Option HO) = some u := z; cases z') (fun b z => absurd rfl z) fun z => absurd rfl z
  | none =>
    refine core (fun b => if b = a then some (.frz { cls := .type "list", data := .seq vs.toArray } (.lst (ns.map V.int))) else none) (fun b => ?_) (.inl (.inr ⟨{ cls := .type "list", data := .seq vs.toArray }, if_pos rfl⟩)) (fun b u z => ?_) (fun b z => ?_) fun _ => hk
    · by_cases hb : b = a
      · exact .inr ⟨_, _, if_pos hb⟩
      · exact .inl (if_neg hb)
    · by_cases hb : b = a
      · have z' := (if_pos hb).symm.trans z
        cases z'
        subst hb
        exact ⟨ha, by rw [List.length_map]; exact hl, vs, _, rv, ha⟩
      · have z' := (if_neg hb).symm.trans z
        cases z'
    · by_cases hb : b = a
      · exact hb
      · exact absurd (if_neg hb) z
end L2

namespace L2
open PySem PySem.Spec PyProof.Rows

theorem walk_of {l : PySem.W.OpenLaw} {n k : Nat} {q : Program} {loose : List Str} {XP : (Str → Option Value) → Heap → Prop} {YP : World → Heap → Prop} {d : DefRec} {K : Params → PySem.W.Frag} {CX : World → CXT} {sp : World → Sp} {x : Str}
    (hn : l.most = some n) (hn2 : n ≤ sizeLine) (hdf : d.params.defaults = []) (hr : Room k callerA)
    (hY : ∀ (w : World) (h : Heap), YP w h → (K w.params).In h)
    (F : ∀ (w : World) (mg : Str → Option Value) (fa : Addr) (h : Heap), (K w.params).In h → h.Ns mainGlobals mg → mg d.name = some (.ref fa) →
      ∃ fd : FuncData, (∀ (s : Shared) (u : Value), BindsTo s fd ⟨[u], []⟩ [(x, u)]) ∧
        ∀ base : Heap, (K w.params).In base → base.Ns mainGlobals mg → FnOk l.prog w (K w.params) mg base (CX w) k fa fd [x] (sp w))
    (hsp : ∀ (w : World) (H : Hp) (a : Addr) (ns : List Int), ns.length ≤ n → Only H → SqL (K w.params) H a (ns.map V.int) → sp w [.ref a] H (fun v _ => v = .bl true) fun _ _ _ => False)
    (hCX : ∀ (w : World) (H : Hp) (s : Shared) (e : Value) (s' : Shared), CX w [] H s (fun _ _ _ => False) e s' → False) :
    PySem.W.WalkO q loose XP YP l.row.toRowW d [] (fun f vs => PySem.call f vs) := by
  refine Att.attach_call hn hdf fun w s₀ s₁ mg mb fa o pm cd doc a vs ns G Y ho hd hcd hmg hobj hints hlen hg => ?_
  have KX := hY w _ Y
  obtain ⟨fd, hb, hF⟩ := F w mg fa _ KX G.T.g hmg
  exact law_call KX G.T.g G.T.b G.T.builtins G.T.nolimit hg hobj hints (Nat.le_trans hlen hn2) hr hF hb (fun H hO hS => hsp w H a ns hlen hO hS) fun H e s' => hCX w H s₁ e s'
end L2


namespace L2
open PySem PySem.Spec PyProof.Rows

noncomputable def inClass (s : Stmt) (j : Nat) : Stmt := match s with
  | .ClassDef _ _ _ body _ _ _ _ _ _ _ => body.getD j (.Pass ⟨0, 0, 0, 0⟩)
  | _ => .Pass ⟨0, 0, 0, 0⟩
noncomputable def defArgs (s : Stmt) : Arguments := match s with
  | .FunctionDef _ a _ _ _ _ _ _ _ _ => a
  | _ => { posonlyargs := [], args := [], vararg := none, kwonlyargs := [], kw_defaults := [], kwarg := none, defaults := [] }
noncomputable def defBody (s : Stmt) : List Stmt := match s with
  | .FunctionDef _ _ b _ _ _ _ _ _ _ => b
  | _ => []
noncomputable def defScope (s : Stmt) : Scope := match s with
  | .FunctionDef _ _ _ _ _ _ sc _ _ _ => sc
  | _ => { kind := .function, names := [], isGenerator := false, isCoroutine := false }

noncomputable abbrev CX0 : CXT := fun _ _ _ _ _ _ => False
noncomputable abbrev E0 : XK := fun _ _ _ => False
theorem pass0 {X : Cx} : Passes CX0 X E0 := fun _ _ _ _ _ _ _ h => h.elim

set_option genInjectivity false in
set_option genSizeOf false in
structure Fun (K : PySem.W.Frag) (x qual : Str) (st : Stmt) (f : Addr) (fd : FuncData) : Prop where
  ex : ∃ (oc : Value) (od : Option Addr) (kV doc pm : Value) (an : Option Addr) (cdv ct : Value) (osl : Array (Option Value)),
    fd = PySem.W.fnOf x qual (defArgs st) (defBody st) (defScope st) .none kV doc pm an cdv ct ∧ K.lookup f = some ⟨oc, od, .func fd, osl⟩ ∧ PySem.W.codeIn K cdv qual = true
  kp : PySem.W.keepIn K (.ref f) = true
section
variable {P : Program} {w : World} {K : PySem.W.Frag} {mg : Str → Option Value} {base : Heap}
theorem Fun.ok {x qual : Str} {st : Stmt} {f : Addr} {fd : FuncData} {N ps : List Str} {k : Nat} {sp : Sp} (F : Fun K x qual st f fd) (S : FnScope N ps (defScope st)) (len : ∀ vs H Q E, sp vs H Q E → vs.length = ps.length)
    (hbody : ∀ (cdv : Value) (A : Around) (outer : List Env) (s : Shared) (H : Hp) (vs : List V) (Q : VK) (E : XK), Room k (A.deeper (envOfC qual (defScope st) s.heap.objs.size f cdv)) → sp vs H Q E →
      ∃ t, PSs (cxOf CX0 P w K mg base N qual (defScope st) f cdv A outer s H E).nox (defBody st) t ∧ t { nx := fun _ H' => Q .non H', rt := Q } (start N vs) H) : FnOk P w K mg base CX0 (k + 1) f fd ps sp := by
  obtain ⟨oc, od, kV, doc, pm, an, cdv, ct, osl, rfl, lk, hcd⟩ := F.ex
  refine fn_of lk hcd S len fun A outer s H vs Q E hr hsp => ?_
  obtain ⟨t, h, q⟩ := hbody cdv A outer s H vs Q E hr hsp
  exact ⟨t, h.nox, q⟩
theorem Fun.binds {x qual : Str} {st : Stmt} {f : Addr} {fd : FuncData} {ps : List Str} (F : Fun K x qual st f fd)
    (h : ∀ (kV doc pm : Value) (an : Option Addr) (cdv ct : Value) (us : List Value), us.length = ps.length → bindArgs (PySem.W.fnOf x qual (defArgs st) (defBody st) (defScope st) .none kV doc pm an cdv ct) ⟨us, []⟩ = pure (ps.zip us)) : Binds K fd ps [] := by
  obtain ⟨oc, od, kV, doc, pm, an, cdv, ct, osl, rfl, lk, hcd⟩ := F.ex
  exact .all (h kV doc pm an cdv ct)
theorem fun_mk {x qual : Str} {st : Stmt} {f : Addr} {oc : Value} {od an : Option Addr} {osl : Array (Option Value)} {kV doc pm cdv ct : Value} (l : K.lookup f = some ⟨oc, od, .func (PySem.W.fnOf x qual (defArgs st) (defBody st) (defScope st) .none kV doc pm an cdv ct), osl⟩)
    (c : PySem.W.codeIn K cdv qual = true) (k : PySem.W.keepIn K (.ref f) = true) : Fun K x qual st f (PySem.W.fnOf x qual (defArgs st) (defBody st) (defScope st) .none kV doc pm an cdv ct) := ⟨⟨oc, od, kV, doc, pm, an, cdv, ct, osl, rfl, l, c⟩, k⟩
end
theorem hu_of {A : Around} {k : Nat} (hr : Room k A) : A.units + 1 < cLine := Nat.lt_of_le_of_lt (Nat.add_le_add_left (by decide : 1 ≤ 64) _) hr.units
theorem small1000 {n : Nat} (h : n ≤ 1000) : n < sizeLine := Nat.lt_of_le_of_lt h (by decide)

section
variable {X : Cx}
theorem pv (i : Nat) {x : Str} {pos : Pos} (hN : X.N[i]? = some x := by rfl) (hv : Vis X.env.scope x := by first | exact Or.inl rfl | exact Or.inr (Or.inl rfl) | exact Or.inr (Or.inr rfl)) (hd : (x == ("__debug__" : Str)) = false := by decide)
    (hcd : (x == ("__classdict__" : Str)) = false := by decide) : PE X (.Name x pos) (tVar i) := pe_var hN hv hd hcd
end

theorem iteF {A B : Prop} (h : B) : if false = true then A else B := by
  rw [if_neg Bool.false_ne_true]
  exact h
theorem iteT {A B : Prop} (h : A) : if true = true then A else B := by
  rw [if_pos rfl]
  exact h
theorem ite2 {c A B : Prop} [Decidable c] (h1 : c → A) (h2 : ¬ c → B) : if c then A else B := by
  by_cases h : c
  · rw [if_pos h]
    exact h1 h
  · rw [if_neg h]
    exact h2 h
noncomputable def Same (H H' : Hp) : Prop := ∀ b o, H b = some o → H' b = some o
theorem Same.refl (H : Hp) : Same H H := fun _ _ h => h
theorem Same.trans {H H1 H2 : Hp} (a : Same H H1) (b : Same H1 H2) : Same H H2 := fun c o h => b c o (a c o h)
section
variable {κ : Type} [DecidableEq κ]
theorem nd_snoc : ∀ {l : List κ} {k : κ}, l.Nodup → ¬ k ∈ l → (l ++ [k]).Nodup
  | [], k, _, _ => by simp
  | a :: r, k, h, hk => by
    obtain ⟨h1, h2⟩ := List.nodup_cons.mp h
    show (a :: (r ++ [k])).Nodup
    refine List.nodup_cons.mpr ⟨fun m => ?_, nd_snoc h2 fun m => hk (List.mem_cons.mpr (Or.inr m))⟩
    rcases List.mem_append.mp m with q | q
    · exact h1 q
    · exact hk (List.mem_cons.mpr (Or.inl (List.mem_singleton.mp q).symm))
end
end L2
namespace L2
open PySem PySem.Spec PyProof.Rows
mutual
inductive RdD (K : PySem.W.Frag) (H : Hp) : V → PyData → Prop
  | non : RdD K H .non .none
  | bl (b : Bool) : RdD K H (.bl b) (.bool b)
  | int (i : Int) : RdD K H (.int i) (.int i)
  | str (x : Str) : RdD K H (.str x) (.str x)
  | lst {a : Addr} {xs : List V} {ds : List PyData} : SqL K H a xs → RdAll K H xs ds → RdD K H (.ref a) (.list ds)
  | tup {a : Addr} {xs : List V} {ds : List PyData} : SqT K H a xs → RdAll K H xs ds → RdD K H (.ref a) (.tuple ds)
inductive RdAll (K : PySem.W.Frag) (H : Hp) : List V → List PyData → Prop
  | nil : RdAll K H [] []
  | cons {x : V} {xs : List V} {d : PyData} {ds : List PyData} : RdD K H x d → RdAll K H xs ds → RdAll K H (x :: xs) (d :: ds)
end
section
variable {X : Cx} {pins : List (Addr × Obj)} {σ : St} {H : Hp} {s : Shared}
mutual
theorem RdD.reads (I : Inv X pins σ H s) : ∀ {x : V} {d : PyData} {u : Value}, RdD X.K H x d → RelV x u → ∃ as, Reads s.heap u d as
  | _, _, _, .non, r => by cases r; exact ⟨_, Reads.none⟩
  | _, _, _, .bl b, r => by cases r; exact ⟨_, Reads.bool b⟩
  | _, _, _, .int i, r => by obtain ⟨t, rfl⟩ := r; exact ⟨_, Reads.int i t⟩
  | _, _, _, .str x, r => by obtain ⟨t, rfl⟩ := r; exact ⟨_, Reads.str x t⟩
  | _, _, _, .lst h hs, r => by
    cases r
    obtain ⟨its, rv, pl, _⟩ := I.list h
    obtain ⟨as, q⟩ := RdAll.reads I hs rv
    obtain ⟨o, ho, hc, n, hd⟩ := pl.isList
    exact ⟨_, reads_list_at ho hc hd (by simpa using q)⟩
  | _, _, _, .tup h hs, r => by
    cases r
    obtain ⟨its, rv, pl, _⟩ := I.tuple h
    obtain ⟨as, q⟩ := RdAll.reads I hs rv
    obtain ⟨o, ho, hc, n, hd⟩ := pl
    exact ⟨_, reads_tuple_at ho hc hd (by simpa using q)⟩
theorem RdAll.reads (I : Inv X pins σ H s) : ∀ {xs : List V} {ds : List PyData} {us : List Value}, RdAll X.K H xs ds → Vals xs us → ∃ as, ReadsAll s.heap us ds as
  | _, _, _, .nil, r => by cases r; exact ⟨_, ReadsAll.nil⟩
  | _, _, _, .cons h hs, r => by
    cases r with
    | cons r1 r2 =>
      obtain ⟨as, q⟩ := RdD.reads I h r1
      obtain ⟨bs, p⟩ := RdAll.reads I hs r2
      exact ⟨_, ReadsAll.cons q p⟩
end
end
section
variable {X : Cx}
theorem op_eqD (hu : X.A.units + 64 < cLine) : OpR X (compareOp .Eq) (fun x y H Q => ∃ da db, RdD X.K H x da ∧ RdD X.K H y db ∧ SeqAt.shaped da = true ∧ SeqAt.shaped db = true ∧ Q (.bl (PyData.eqv da db)) H) := by
  intro pins s σ H x y v u Q I rx ry h
  obtain ⟨da, db, ha, hb, sa, sb, q⟩ := h
  obtain ⟨as, ra⟩ := ha.reads I rx
  obtain ⟨bs, rb⟩ := hb.reads I ry
  exact eq_dataH ra rb sa sb hu ⟨.bl _, H, I, rfl, q⟩
theorem op_neD (hu : X.A.units + 64 < cLine) : OpR X (compareOp .NotEq) (fun x y H Q => ∃ da db, RdD X.K H x da ∧ RdD X.K H y db ∧ SeqAt.shaped da = true ∧ SeqAt.shaped db = true ∧ Q (.bl (!PyData.eqv da db)) H) := by
  intro pins s σ H x y v u Q I rx ry h
  obtain ⟨da, db, ha, hb, sa, sb, q⟩ := h
  obtain ⟨as, ra⟩ := ha.reads I rx
  obtain ⟨bs, rb⟩ := hb.reads I ry
  exact ne_dataH ra rb sa sb hu ⟨.bl _, H, I, rfl, q⟩
theorem call_isT : CallR X (.builtin "isinstance") (fun xs H Q => ∃ x t n b, xs = [x, .ty n] ∧ TyOf X.K H x t ∧ PySem.W.kitOne X.K t (.type n) = some b ∧ Q (.bl b) H) := by
  intro pins s σ H xs us Q I r h
  obtain ⟨x, t, n, b, rfl, ty, e, q⟩ := h
  obtain ⟨u, u', rfl, rx, ry⟩ := vals2 r
  cases ry
  exact isinst_ok I rx ty e fun tk => ⟨.bl b, H, I.tok _, rfl, q⟩
end
section
theorem pairedApp {α β : Type} {F : α → β → Prop} : ∀ {l₁ k₁ : List α} {l₂ k₂ : List β}, Paired F l₁ l₂ → Paired F k₁ k₂ → Paired F (l₁ ++ k₁) (l₂ ++ k₂)
  | _, _, _, _, .nil, s => s
  | _, _, _, _, .cons r t, s => .cons r (pairedApp t s)
theorem pairedGetL {α β : Type} {F : α → β → Prop} : ∀ {l₁ : List α} {l₂ : List β} {i : Nat} {a : α}, Paired F l₁ l₂ → l₁[i]? = some a → ∃ b, l₂[i]? = some b ∧ F a b
  | _, _, _, _, .nil, e => by simp at e
  | _, _, 0, _, .cons r _, e => by simp at e; subst e; exact ⟨_, rfl, r⟩
  | _, _, i + 1, a, .cons _ t, e => by
    obtain ⟨b, h1, h2⟩ := pairedGetL (i := i) (a := a) t (by simpa using e)
    exact ⟨b, by simpa using h1, h2⟩
noncomputable def tp (p : Int × Int) : HO := .tup [.int p.1, .int p.2]
variable {K : PySem.W.Frag} {H H' : Hp} {l r p : Addr} {rs : List Addr} {ps qs : List (Int × Int)}
theorem same_new {o : HO} (h : H p = none) : Same H (upd H p o) := fun b u e => by rw [upd_ne (ne_of_none e h)]; exact e
theorem same_upd {H₀ : Hp} {o : HO} (e : Same H₀ H) (h : H₀ p = none) : Same H₀ (upd H p o) := fun b u q => by rw [upd_ne (ne_of_none q h)]; exact e _ _ q
noncomputable def dp (p : Int × Int) : PyData := .tuple [.int p.1, .int p.2]
end
end L2
namespace L2
open PySem PySem.Spec PyProof.Rows
noncomputable def cxComp (X : Cx) (scope : Scope) (cl : List (Str × Addr)) (N : List Str) (fp : List Addr) (s : Shared) (H : Hp) : Cx :=
  { X with N := N, s₀ := s, H₀ := H, env := compEnvC scope cl s.heap.objs.size X.env, outer := X.stack, stack := X.stack, ex := fp, fn := fun _ => false, pn := [], xe := fun _ _ => False }
noncomputable def slotsC (fr : List (Str × Nat)) (σ : St) : St := fr.map fun p => (σ[p.2]?).join
section
variable {X : Cx} {pins : List (Addr × Obj)} {σ : St} {H : Hp} {s : Shared} {scope : Scope} {cl : List (Str × Addr)} {x : Str} {fr : List (Str × Nat)} {fp : List Addr}
theorem comp_back {H' : Hp} {s' : Shared} {σc : St} {N : List Str} {pl : List (Addr × Obj)} (I : Inv X pins σ H s) (hf : ∀ b ∈ fp, FpOk X pins H b) (Ic : Inv (cxComp X scope cl N fp s H) pl σc H' s') : Inv X pins σ H' s' :=
  I.call' (ch := fp) Ic.os Ic.base Ic.hok Ic.bare fun b hb => ⟨(hf b hb).2.2.2.1, (hf b hb).2.1, (hf b hb).2.2.2.2.1, (hf b hb).2.2.2.2.2⟩
end
section
variable {prog : Program} {w : World} {A : Around} {R : Result → Shared → Prop} {s : Shared}
theorem compLoop_go {elt target iter : Expr} {ifs : List Expr} {scope : Scope} {pos : Pos} {it acc : Value} {env : Env} (I : Nat → Shared → Prop)
    (turn : ∀ n s, I n s → wpAny (model prog w) A (pyNext it) (fun r s₁ => match r with
      | none => R (.ok .next) s₁
      | some v => wpAny (model prog w) A (letOwnedTupleGo target it v) (fun _ s₁' => wpAny (model prog w) A (assign target env v) (fun _ s₂ =>
          wpAny (model prog w) A (forIn ifs true fun c r => if r = true then do let ok ← isTrue c env (eval c env); pure (ForInStep.yield ok) else pure (ForInStep.yield r)) (fun ok s₃ =>
            if ok = true then wpAny (model prog w) A (eval elt env) (fun x s₄ =>
              wpAny (model prog w) A (call (.builtin "list.append") [acc, x]) (fun _ s₅ => ∃ m, m < n ∧ I m s₅) (fun _ _ => False) s₄) (fun _ _ => False) s₃
            else ∃ m, m < n ∧ I m s₃) (fun _ _ => False) s₂) (fun _ _ => False) s₁') (fun _ _ => False) s₁) (fun _ _ => False) s)
    (n : Nat) (h : I n s) : codeAny (model prog w) A (.compLoop (.ListComp elt [⟨target, iter, ifs, 0⟩] scope pos) 0 it acc env) R s := by
  refine codeAny_loop rfl I (fun n s hI => ?_) n h
  show wpAny _ A ((compTurn (.ListComp elt [⟨target, iter, ifs, 0⟩] scope pos) 0 it acc env).onRaise (fun x => do noteFrame x env; theTreesLotGoes x)) _ _ s
  refine wpAny_noted ?_
  rw [compTurn_list]
  refine wpAny_bind (wpAny_standAt (wpAny_bind (wpAny_mono (turn n s hI) (fun r s₁ h₁ => ?_) fun _ _ h' => h'.elim)))
  cases r with
  | none => exact wpAny_pure h₁
  | some v =>
    refine wpAny_bind (wpAny_mono h₁ (fun _ s₁' h₁' => ?_) fun _ _ h' => h'.elim)
    refine wpAny_bind (wpAny_mono h₁' (fun _ s₂ h₂ => wpAny_bind (wpAny_mono h₂ (fun ok s₃ h₃ => ?_) fun _ _ h' => h'.elim)) fun _ _ h' => h'.elim)
    cases ok with
    | false => exact wpAny_pure ⟨rfl, h₃⟩
    | true =>
      exact wpAny_bind (wpAny_bind (wpAny_mono h₃ (fun x s₄ h₄ => wpAny_bind (wpAny_mono h₄ (fun _ s₅ h₅ => wpAny_pure (wpAny_pure ⟨rfl, h₅⟩)) fun _ _ h' => h'.elim)) fun _ _ h' => h'.elim))
end
noncomputable def PTs (X : Cx) (ifs : List Expr) (t : TT) : Prop :=
  ∀ (pins : List (Addr × Obj)) (s : Shared) (σ : St) (H : Hp) (Q : Bool → Hp → Prop), Inv X pins σ H s → t σ H Q →
    wpAny (model X.prog X.w) X.A (forIn ifs true fun c r => if r = true then do let ok ← isTrue c X.env (eval c X.env); pure (ForInStep.yield ok) else pure (ForInStep.yield r)) (TP X pins σ Q) X.xe s
noncomputable def tNoTest : TT := fun _ H Q => Q true H
theorem pts_nil {X : Cx} : PTs X [] tNoTest := fun _ _ _ H _ I h => wpAny_tests_nil ⟨H, I, h⟩
theorem pts_one {X : Cx} {c : Expr} {t : TT} (h : PT X c t) : PTs X [c] t := fun pins s σ H Q I q => wpAny_tests_one (h pins s σ H Q I q)
end L2
namespace R
open PySem L2 PyProof.Rows
set_option genInjectivity false in
set_option genSizeOf false in
structure Df (K : PySem.W.Frag) (mg : Str → Option Value) (x : Str) (st : Stmt) (ps : List Str) where
  f : Addr
  fd : FuncData
  F : Fun K x x st f fd
  b : Binds K fd ps []
  m : mg x = some (.ref f)
noncomputable def df_mk {K : PySem.W.Frag} {h : Heap} {mg : Str → Option Value} (X : K.In h) (G : h.Ns mainGlobals mg) {x : Str} {st : Stmt} {f : Addr} {ps : List Str} {od an : Option Addr} {osl : Array (Option Value)} {oc kV doc pm cdv ct : Value}
    (a : PySem.W.nsIn K mainGlobals x = some (some (.ref f)))
    (l : K.lookup f = some ⟨oc, od, .func (PySem.W.fnOf x x (defArgs st) (defBody st) (defScope st) .none kV doc pm an cdv ct), osl⟩)
    (c : PySem.W.codeIn K cdv x = true) (k : PySem.W.keepIn K (.ref f) = true)
    (h : ∀ (kV doc pm : Value) (an : Option Addr) (cdv ct : Value) (us : List Value), us.length = ps.length → bindArgs (PySem.W.fnOf x x (defArgs st) (defBody st) (defScope st) .none kV doc pm an cdv ct) ⟨us, []⟩ = pure (ps.zip us)) :
    Df K mg x st ps :=
  ⟨f, _, fun_mk (st := st) l c k, (fun_mk (st := st) l c k).binds h, PySem.W.mg_of X G a⟩
theorem atI_int {ns : List Int} {k : Int} (h0 : 0 ≤ k) (h1 : k < ns.length) : ∃ z, atI (ns.map V.int) k = some (V.int z) := by
  have hz : k.toNat < ns.length := by omega
  have e : (ns.map V.int)[k.toNat]? = some (V.int ns[k.toNat]) := by simp [hz]
  have e2 : ((k.toNat : Nat) : Int) = k := by omega
  have := atI_nat e
  rw [e2] at this
  exact ⟨_, this⟩
noncomputable def spCell (K : PySem.W.Frag) : Sp := fun vs H Q _ => ∃ (a : Addr) (ns : List Int) (k : Int), vs = [.ref a, .int k] ∧ SqL K H a (ns.map V.int) ∧ 0 ≤ k ∧ ∀ z : Int, Q (.int z) H
end R
namespace L2
open PySem PySem.Spec PyProof.Rows
noncomputable def Its (z : Str) : It := ⟨fun i _ => i < z.cps.size, fun i H x H' => H' = H ∧ ∃ c, z.cps[i]? = some c ∧ x = .str ⟨#[c]⟩, fun i _ => z.cps.size ≤ i⟩
theorem str_obj {T : String} {it b : Addr} {z : Str} {t : Tok} {i : Nat} {h : Heap} (st : h.IsStrIter it T z t i) (hb : b ∈ [it]) : ∃ o, h.get? b = some o ∧ ∀ v, o.data ≠ .cell v := by
  have e : b = it := by simpa using hb
  subst e
  obtain ⟨o, e, c, d⟩ := st
  exact ⟨o, e, fun v z => by rw [d] at z; cases z⟩
theorem str_keep {T : String} {it : Addr} {z : Str} {t : Tok} {i : Nat} {h h' : Heap} (st : h.IsStrIter it T z t i) (k : ∀ b ∈ [it], ∀ o, h.get? b = some o → h'.get? b = some o) : h'.IsStrIter it T z t i := by
  obtain ⟨o, e, r⟩ := st
  exact ⟨o, k it (by simp) o e, r⟩
theorem turn_ascii {P : Program} {w : World} {K : PySem.W.Frag} {tg : Expr} (it : Addr) (z : Str) (t : Tok) : Turn P w K tg (Its z) [it] it (fun i h => h.IsStrIter it "str_ascii_iterator" z t i) where
  mem := by simp
  obj := fun i h st b hb => str_obj st hb
  keep := fun i h h' st k => str_keep st k
  item := by
    intro X hP hw hK hc i pins s σ H E I hf st hg
    subst hP hw hK
    obtain ⟨f0, f1, f2, f3, f4, f5⟩ := hf it (by simp)
    have hi : i < z.cps.size := hg
    refine wpAny_pyNext_ascii_item st (c := z.cps[i]) (by simp [hi]) fun h' st' sb => ?_
    have I1 : Inv X pins σ H { s with heap := h', toks := s.toks + 1 } := I.turned (fun b o hb e => sb.extBut b o hb e) f0 f1 f3 f4 f5
    obtain ⟨o, e, c, d⟩ := id st'
    exact ⟨_, rfl, go_of (s := { s with heap := h', toks := s.toks + 1 }) e c d (by decide) ⟨.str ⟨#[z.cps[i]]⟩, H, I1, ⟨_, rfl⟩, ⟨rfl, _, by simp [hi], rfl⟩, st', fun b hb => (hf b hb).1⟩⟩
  done := by
    intro X hP hw hK hc i pins s σ H E I hf st hg
    subst hP hw hK
    obtain ⟨f0, f1, f2, f3, f4, f5⟩ := hf it (by simp)
    have hi : z.cps.size ≤ i := hg
    exact wpAny_pyNext_ascii_end (I.ok.hd hc) st (by simp [hi]) fun h' eb => ⟨rfl, I.turned (t' := s.toks) (fun b o hb e => eb b o hb e) f0 f1 f3 f4 f5⟩
  self := fun _ _ _ _ _ st h => wpAny_pyIter_striter_ascii st h
theorem turn_wide {P : Program} {w : World} {K : PySem.W.Frag} {tg : Expr} (it : Addr) (z : Str) (t : Tok) : Turn P w K tg (Its z) [it] it (fun i h => h.IsStrIter it "str_iterator" z t i) where
  mem := by simp
  obj := fun i h st b hb => str_obj st hb
  keep := fun i h h' st k => str_keep st k
  item := by
    intro X hP hw hK hc i pins s σ H E I hf st hg
    subst hP hw hK
    obtain ⟨f0, f1, f2, f3, f4, f5⟩ := hf it (by simp)
    have hi : i < z.cps.size := hg
    refine wpAny_pyNext_wide_item st (c := z.cps[i]) (by simp [hi]) fun h' st' sb => ?_
    have I1 : Inv X pins σ H { s with heap := h', toks := s.toks + 1 } := I.turned (fun b o hb e => sb.extBut b o hb e) f0 f1 f3 f4 f5
    obtain ⟨o, e, c, d⟩ := id st'
    exact ⟨_, rfl, go_of (s := { s with heap := h', toks := s.toks + 1 }) e c d (by decide) ⟨.str ⟨#[z.cps[i]]⟩, H, I1, ⟨_, rfl⟩, ⟨rfl, _, by simp [hi], rfl⟩, st', fun b hb => (hf b hb).1⟩⟩
  done := by
    intro X hP hw hK hc i pins s σ H E I hf st hg
    subst hP hw hK
    obtain ⟨f0, f1, f2, f3, f4, f5⟩ := hf it (by simp)
    have hi : z.cps.size ≤ i := hg
    exact wpAny_pyNext_wide_end (I.ok.hd hc) st (by simp [hi]) fun h' eb => ⟨rfl, I.turned (t' := s.toks) (fun b o hb e => eb b o hb e) f0 f1 f3 f4 f5⟩
  self := fun _ _ _ _ _ st h => wpAny_pyIter_striter_wide st h
section
variable {X : Cx} {tg : Expr}
noncomputable def iStr (tl : TE) : TI := fun σ H R => tl σ H fun x H1 => ∃ z, x = .str z ∧ R (Its z) H1
theorem pi_str {l : Expr} {tl : TE} (hl : PE X l tl) : PI X tg l (iStr tl) := by
  intro pins s σ H R I h
  refine thn (hl pins s σ H _ I h) fun v s1 ⟨x, H1, I1, r1, q1⟩ => ?_
  obtain ⟨z, e, q⟩ := q1
  subst e
  obtain ⟨t, rfl⟩ := r1
  have fin : ∀ b ∈ [s1.heap.objs.size], FpOk X pins H1 b := fun b hb => by
    have e : b = s1.heap.objs.size := by simpa using hb
    subst e
    exact I1.fpOk (Nat.le_refl _) (I1.hok.fresh (Nat.le_refl _))
  cases ha : z.cps.all (· < 128)
  · exact wpAny_pyIter_wide ha ⟨s1.heap.objs.size, [s1.heap.objs.size], _, _, H1, rfl, I1.kept (t' := s1.toks) fun b o e => Heap.get?_push_of_some _ e, turn_wide _ z t, ⟨_, Heap.get?_push_size _ rfl, rfl, rfl⟩, fin, q⟩
  · exact wpAny_pyIter_ascii ha ⟨s1.heap.objs.size, [s1.heap.objs.size], _, _, H1, rfl, I1.kept (t' := s1.toks) fun b o e => Heap.get?_push_of_some _ e, turn_ascii _ z t, ⟨_, Heap.get?_push_size _ rfl, rfl, rfl⟩, fin, q⟩
theorem call_allB (hc : X.calm = true) : CallR X (.builtin "all") (fun xs H Q => ∃ (p : Addr) (bs : List Bool), xs = [.ref p] ∧ SqL X.K H p (bs.map V.bl) ∧ Q (.bl (bs.all id)) H) := by
  intro pins s σ H xs us Q I r h
  obtain ⟨p, bs, rfl, hq, q⟩ := h
  obtain ⟨u, rfl, rx⟩ := vals1 r
  cases rx
  obtain ⟨its, r', pl, hz⟩ := I.list hq
  have hlen : bs.length = its.length := by have := r'.length; rwa [List.length_map] at this
  have hh : X.A.in1.handled = none := I.ok.hd hc
  have hlt : p < s.heap.objs.size := by obtain ⟨o, ho, _⟩ := pl.isList; exact Heap.lt_size ho
  have hne : p ≠ s.heap.objs.size := Nat.ne_of_lt hlt
  refine call_all_walk (wpAny_pyIter_list pl.isList ?_)
  have hat : ∀ (i : Nat) (v : Value), its.toArray[i]? = some v → v = Value.bool (bs.getD i false) := fun i v e => by
    have e' : its[i]? = some v := by simpa using e
    have hi : i < bs.length := by
      have := (List.getElem?_eq_some_iff.mp e').1
      omega
    have hb : (bs.map V.bl)[i]? = some (.bl (bs.getD i false)) := by
      rw [List.getElem?_map, List.getD_eq_getElem?_getD, List.getElem?_eq_getElem hi]; rfl
    obtain ⟨u, hu, ru⟩ := r'.get hb
    rw [e'] at hu
    cases hu
    exact ru
  refine ⟨_, _, _, _, _, _, fun i => bs.getD i false, rfl, Walks.list hh s.heap.objs.size p hne its.toArray, ⟨⟨_, Heap.get?_push_size _ rfl, rfl, rfl⟩, pl.isList.at fun o e => Heap.get?_push_of_some _ e⟩, ?_, ?_⟩
  · intro i v s' Q' E' hP hQ
    rw [hat i v hP]
    exact wpAny_truthy_bool hQ
  · intro h' tk hk
    refine ⟨.bl (bs.all id), H, ?_, ?_, q⟩
    · have I1 : Inv X pins σ H { s with heap := s.heap.push { cls := .type "list_iterator", data := .fields #[.ref p, .int 0 0] } } := I.kept (t' := s.toks) fun b o e => Heap.get?_push_of_some _ e
      have f := I.fpOk (b := s.heap.objs.size) (H' := H) (Nat.le_refl _) (I.hok.fresh (Nat.le_refl _))
      exact Inv.turned (t' := tk) I1 (fun b o hb e => hk b o (by simpa using hb) e) f.1 f.2.1 f.2.2.2.1 f.2.2.2.2.1 f.2.2.2.2.2
    · show Value.bool _ = Value.bool _
      congr 1
      rw [List.size_toArray, ← hlen]
      have : bs.all id = (List.range bs.length).all fun i => bs.getD i false := by
        rw [Bool.eq_iff_iff, List.all_eq_true, List.all_eq_true]
        constructor
        · intro h i hi
          have hi' : i < bs.length := List.mem_range.mp hi
          rw [List.getD_eq_getElem?_getD, List.getElem?_eq_getElem hi']
          exact h _ (List.getElem_mem hi')
        · intro h b hb
          obtain ⟨i, hi, rfl⟩ := List.mem_iff_getElem.mp hb
          have := h i (List.mem_range.mpr hi)
          rw [List.getD_eq_getElem?_getD, List.getElem?_eq_getElem hi] at this
          exact this
      exact this.symm
end
end L2
namespace L2
open PySem PySem.Spec PyProof.Rows
noncomputable def SubL (cells : List (Str × Addr)) : List (Str × Addr) → Prop
  | [] => True
  | p :: r => cells.lookup p.1 = some p.2 ∧ SubL cells r
noncomputable def FreL (N : List Str) (names rn : List (Str × NameKind)) : List (Str × Nat) → Prop
  | [] => True
  | p :: r => (N[p.2]? = some p.1 ∧ (names.lookup p.1 = some .cell ∨ names.lookup p.1 = some .free) ∧ (rn.lookup p.1 = some .cell ∨ rn.lookup p.1 = some .free)) ∧ FreL N names rn r
theorem mem_of_lookup {β : Type} {y : Str} {k : β} : ∀ {l : List (Str × β)}, l.lookup y = some k → (y, k) ∈ l
  | [], h => by simp at h
  | (n, v) :: r, h => by
    rw [List.lookup_cons] at h
    by_cases e : (y == n) = true
    · rw [e] at h
      have e' : y = n := eq_of_beq e
      have h' : v = k := Option.some.inj h
      rw [e', h']
      exact List.mem_cons_self ..
    · have e' : (y == n) = false := by simpa using e
      rw [e'] at h
      exact List.mem_cons_of_mem _ (mem_of_lookup h)
theorem SubL.mem {cells : List (Str × Addr)} : ∀ {l : List (Str × Addr)}, SubL cells l → ∀ p ∈ l, cells.lookup p.1 = some p.2
  | [], _, p, hp => by cases hp
  | q :: r, h, p, hp => by
    rcases List.mem_cons.mp hp with e | e
    · exact e ▸ h.1
    · exact SubL.mem h.2 p e
theorem FreL.mem {N : List Str} {names rn : List (Str × NameKind)} : ∀ {l : List (Str × Nat)}, FreL N names rn l → ∀ p ∈ l, N[p.2]? = some p.1 ∧ (names.lookup p.1 = some .cell ∨ names.lookup p.1 = some .free) ∧ (rn.lookup p.1 = some .cell ∨ rn.lookup p.1 = some .free)
  | [], _, p, hp => by cases hp
  | q :: r, h, p, hp => by
    rcases List.mem_cons.mp hp with e | e
    · exact e ▸ h.1
    · exact FreL.mem h.2 p e
end L2
namespace L2
open PySem PySem.Spec PyProof.Rows
end L2
namespace L2
open PySem PySem.Spec PyProof.Rows
end L2
namespace L2
open PySem PySem.Spec PyProof.Rows
section
variable {X : Cx} {K : PySem.W.Frag}
theorem ix_tupK (h : X.K = K := by rfl) : IxR X (rIxT K) := h ▸ ix_tup
end
end L2
namespace L2
open PySem PySem.Spec PyProof.Rows
end L2
namespace SortP
open PySem PySem.W PyProof.Rows
section
variable {n : Nat} {lt : Nat → Nat → Bool}
noncomputable abbrev at' (p : Array Nat) (i : Nat) : Nat := p.getD i 0
set_option genInjectivity false in
set_option genSizeOf false in
structure G (n : Nat) (p : Array Nat) : Prop where
  sz : p.size = n
  pm : p.toList.Perm (List.range n)
noncomputable def S (lt : Nat → Nat → Bool) (p : Array Nat) (m : Nat) : Prop := ∀ i j, i ≤ j → j < m → lt (at' p j) (at' p i) = false
noncomputable def D (lt : Nat → Nat → Bool) (p : Array Nat) (m : Nat) : Prop := ∀ i j, i ≤ j → j < m → lt (at' p i) (at' p j) = false
noncomputable def R (n : Nat) (lt : Nat → Nat → Bool) (r : Nat × Array Nat) : Prop := G n r.2 ∧ 1 ≤ r.1 ∧ r.1 ≤ n ∧ S lt r.2 r.1
end
end SortP
namespace L2
open PySem PySem.Spec PyProof.Rows
theorem ObjOk.ex {P : Program} {w : World} {H : Hp} {h : Heap} {a : Addr} {o : HO} (x : ObjOk P w H h a o) : ∃ ob, h.get? a = some ob := by
  cases o with
  | lst xs => obtain ⟨_, _, _, _, e⟩ := x; exact ⟨_, e⟩
  | tup xs => obtain ⟨_, _, _, _, o, e, _⟩ := x; exact ⟨_, e⟩
  | dK kvs => obtain ⟨_, _, _, _, o, _, _, e, _⟩ := x; exact ⟨_, e⟩
  | dT kvs => obtain ⟨_, _, _, _, o, _, _, e, _⟩ := x; exact ⟨_, e⟩
  | set S n => obtain ⟨o, _, _, _, e, _⟩ := x; exact ⟨_, e⟩
  | ins C dx fs => obtain ⟨_, _, _, e, _⟩ := x; exact ⟨_, e⟩
  | own y => exact x
  | xd fs => obtain ⟨_, ⟨_, _, _, e, _⟩, _⟩ := x; exact ⟨_, e⟩
  | rng lo hi => obtain ⟨_, _, _, e⟩ := x; exact ⟨_, e⟩
  | frz ob u => obtain ⟨e, _⟩ := x; exact ⟨_, e⟩
  | tbl ps => exact ⟨_, (show h.get? a = some _ from x)⟩
  | met f y => exact ⟨_, (show h.get? a = some _ from x)⟩
  | ext φ => obtain ⟨_, e, _⟩ := x; exact e
end L2
namespace SortP
open PySem PySem.W PyProof.Rows
open HT
end SortP
namespace SortP
open PySem PySem.W PyProof.Rows HT
end SortP
namespace L2
open PySem PySem.Spec PyProof.Rows
end L2
namespace L2
open PySem PySem.Spec PyProof.Rows
end L2
namespace L2
open PySem PySem.Spec PyProof.Rows
end L2
namespace K3
end K3
namespace K3
open PySem L2
end K3
namespace K3
open PySem L2
end K3
namespace K3
open PySem L2
noncomputable def di (xs : List Int) : PyData := .list (xs.map .int)
noncomputable def dl (pss : List (List Int)) : PyData := .list (pss.map di)
theorem shaped_refl {d : PyData} (h : SeqAt.shaped d = true) : PyData.eqv d d = true := SeqAt.eqv_refl d (SeqAt.canLay_of_shaped h)
end K3
namespace K3
open PySem L2
end K3
namespace M6
noncomputable def sq (f g : Int → Int) (b : Int) : Nat → Int
  | 0 => b
  | k + 1 => if k % 2 = 0 then f (sq f g b k) else g (sq f g b k)
section
variable {n : Nat} {f g : Int → Int} {b : Int}
noncomputable def wk (f g : Int → Int) (b : Int) (m : Nat) : List Int := (List.range m).map (sq f g b)
noncomputable def IsFirst (f g : Int → Int) (b : Int) (k : Nat) : Prop := 1 ≤ k ∧ sq f g b (2 * k) = b ∧ ∀ i, 1 ≤ i → i < k → sq f g b (2 * i) ≠ b
noncomputable def per (f g : Int → Int) (b : Int) : Nat := Classical.epsilon (IsFirst f g b)
noncomputable def ring (f g : Int → Int) (b : Int) : List Int := wk f g b (2 * per f g b)
end
noncomputable def acc (f g : Int → Int) : Nat → List (List Int)
  | 0 => []
  | i + 1 => if (i : Int) ∈ (acc f g i).flatten then acc f g i else acc f g i ++ [ring f g i]
end M6
namespace L2
open PySem PySem.Spec PyProof.Rows
end L2
namespace M6
open PySem L2 PyProof.Rows K3
theorem dg {H : Hp} {a : Addr} {kvs : List (Key × V)} {x : Int} {v : V} (e : H a = some (.dK kvs)) (h : valV kvs (Sum.inl x) = some v) : DGet H a (.int x) (some v) := h ▸ DGet.k (k := Sum.inl x) e
end M6
namespace M12
open PySem L2 PyProof.Rows K3
noncomputable abbrev Tr := Int × Int × Int
noncomputable def d3 (t : Tr) : PyData := .tuple [.int t.1, .int t.2.1, .int t.2.2]
theorem depth_mem : ∀ {A : List PyData} {k : Nat}, (∀ d ∈ A, d.depth ≤ k) → PyData.depthAll A ≤ k
  | [], _, _ => Nat.zero_le _
  | a :: A, k, h => by
    show max a.depth (PyData.depthAll A) ≤ k
    exact Nat.max_le.mpr ⟨h a (List.mem_cons_self ..), depth_mem fun d hd => h d (List.mem_cons_of_mem _ hd)⟩
theorem lay_mem : ∀ {A : List PyData}, (∀ d ∈ A, d.canLay0 = true) → PyData.canLayAll0 A = true
  | [], _ => rfl
  | a :: A, h => by
    show (a.canLay0 && PyData.canLayAll0 A) = true
    rw [h a (List.mem_cons_self ..), lay_mem fun d hd => h d (List.mem_cons_of_mem _ hd)]; rfl
noncomputable def Sml (k : Nat) (d : PyData) : Prop := d.canLay0 = true ∧ d.depth ≤ k
theorem sml_list {A : List PyData} {k : Nat} (h : ∀ d ∈ A, Sml k d) : Sml (k + 1) (.list A) := by
  refine ⟨lay_mem fun d hd => (h d hd).1, ?_⟩
  have := depth_mem fun d hd => (h d hd).2
  simp only [PyData.depth]; omega
theorem Sml.shaped {d : PyData} {k : Nat} (h : Sml k d) (hk : k ≤ 64) : SeqAt.shaped d = true := by
  unfold SeqAt.shaped
  rw [h.1, decide_eq_true (Nat.le_trans h.2 hk)]; rfl
end M12
namespace M12
open PySem L2 PyProof.Rows K3
end M12
namespace L2
open PySem PySem.Spec PyProof.Rows
section
variable {X : Cx} {es as : List Expr} {te : TE} {t : TA} {p : Pos} {k : Nat} {v : Const} {l r : Expr} {o : Operator} {u : UnaryOp} {x : Str} {ks : List Keyword}
theorem pa_con (ha : PE X (.Constant v k p) te) (hr : PA X es t) : PA X (.Constant v k p :: es) (tCons te t) := pa_cons ha hr rfl
theorem pa_tp (ha : PE X (.Tuple as k p) te) (hr : PA X es t) : PA X (.Tuple as k p :: es) (tCons te t) := pa_cons ha hr rfl
theorem pa_ls (ha : PE X (.List as p) te) (hr : PA X es t) : PA X (.List as p :: es) (tCons te t) := pa_cons ha hr rfl
theorem pa_bi (ha : PE X (.BinOp l o r p) te) (hr : PA X es t) : PA X (.BinOp l o r p :: es) (tCons te t) := pa_cons ha hr rfl
theorem pa_nm (ha : PE X (.Name x p) te) (hr : PA X es t) : PA X (.Name x p :: es) (tCons te t) := pa_cons ha hr rfl
end
end L2
namespace L2
open PySem PySem.Spec PyProof.Rows
noncomputable def AnyT (t : TT) (σ : St) (H : Hp) : Prop := ∀ Q : Bool → Hp → Prop, (∀ b, Q b H) → t σ H Q
section
variable {t u : TT} {σ : St} {H : Hp}
theorem any_if {a b : TS} {D : Ends} (h : AnyT t σ H) (ha : a D σ H) (hb : b D σ H) : tIfS t a b D σ H := h _ fun _ => ite2 (fun _ => ha) (fun _ => hb)
theorem any_ifS {a r : TS} {D : Ends} (h : AnyT t σ H) (ha : a { D with nx := r D } σ H) (hb : r D σ H) : tSeq (tIfS t a tNext) r D σ H := any_if h ha hb
end
end L2
namespace L2
open PySem PySem.Spec PyProof.Rows PySem.W
section
variable {X : Cx}
noncomputable def rSumI (K : PySem.W.Frag) : List V → Hp → VK → Prop := fun xs H Q => ∃ (l : Addr) (ns : List Int), xs = [.ref l] ∧ SqL K H l (ns.map V.int) ∧ Q (.int ns.sum) H
theorem call_sumI (hc : X.calm = true) : CallR X (.builtin "sum") (rSumI X.K) := by
  intro pins s σ H xs us Q I r h
  obtain ⟨l, ns, rfl, hl, q⟩ := h
  obtain ⟨u, rfl, ru⟩ := vals1 r
  cases ru
  obtain ⟨its, rv, pl, hz⟩ := I.list hl
  have hi := intsAre_of rv
  obtain ⟨xs, hx⟩ := hi.allInts.items
  have hl' : s.heap.IsList l (intItems xs) := hx ▸ pl.isList
  refine sum_intListG (I.ok.hd hc) hl' fun h' tk t' hk => ?_
  have e1 : ns = xs.toList.map (·.1) := by
    rw [← nums_intItems, ← hx]
    exact (show numsOf its.toArray.toList = ns from hi.numsOf).symm
  have e2 : preSum (numAt xs) xs.size = ns.sum := by
    rw [preSum_eq, List.take_of_length_le (by simp), e1]
  rw [e2]
  exact ⟨.int ns.sum, H, I.kept hk, ⟨t', rfl⟩, q⟩
end
end L2
namespace L2
open PySem PySem.Spec PyProof.Rows
end L2
namespace M26
open PySem L2 PyProof.Rows
end M26
namespace L2
open PySem PySem.Spec PyProof.Rows
theorem any_ifPH {t : TT} {σ : St} {H : Hp} {a r : TS} {D : Ends} (P : St → Hp → Prop) (h : AnyT t σ H) (ha : ∀ D' : Ends, (∀ σ' H', P σ' H' → D'.nx σ' H') → a D' σ H) (hσ : P σ H) (hr : ∀ σ' H', P σ' H' → r D σ' H') : tSeq (tIfS t a tNext) r D σ H :=
  any_ifS h (ha _ hr) (hr σ H hσ)
end L2
namespace M26
open PySem L2 PyProof.Rows
end M26
namespace L2
open PySem PySem.Spec PyProof.Rows
end L2
namespace M26
open PySem L2 PyProof.Rows
end M26
namespace L2
open PySem PySem.Spec PyProof.Rows
section
variable {X : Cx}
theorem vals_strs : ∀ {zs : List Str} {its : List Value}, Vals (zs.map V.str) its → ∃ l : List (Str × Tok), its = strValues l ∧ l.map (·.1) = zs
  | [], _, r => by
    cases r
    exact ⟨[], rfl, rfl⟩
  | z :: zs, _, r => by
    cases r with
    | cons h r' =>
      obtain ⟨t, rfl⟩ := h
      obtain ⟨l, rfl, e⟩ := vals_strs r'
      exact ⟨(z, t) :: l, rfl, by rw [List.map_cons, e]⟩
noncomputable def rJoin (K : PySem.W.Frag) : V → List V → Hp → VK → Prop := fun x vs H Q => ∃ z a zs, x = .str z ∧ vs = [.ref a] ∧ SqL K H a (zs.map V.str) ∧ JoinOk z zs = true ∧ Q (.str (Txt.join z zs)) H
theorem mt_join : MtR X "str.join" (rJoin X.K) := by
  intro pins s σ H x vs v us Q I rx rv h
  obtain ⟨z, a, zs, rfl, rfl, hq, jo, q⟩ := h
  obtain ⟨t, rfl⟩ := rx
  obtain ⟨u, rfl, ru⟩ := rv.one
  cases ru
  obtain ⟨its, r, pl, hz⟩ := I.list hq
  obtain ⟨l, rfl, e⟩ := vals_strs r
  exact SC.join (l := l) pl.isList e jo fun t' k => ⟨.str _, H, I.tok _, ⟨_, rfl⟩, q⟩
end
end L2
namespace M26
open PySem L2 PyProof.Rows
end M26
namespace L2
open PySem PySem.Spec PyProof.Rows
theorem ifP_exact {t : TT} {σ : St} {H : Hp} {a r : TS} {D : Ends} (c : Bool) (P : St → Hp → Prop) (h : ∀ Q : Bool → Hp → Prop, Q c H → t σ H Q) (ha : c = true → ∀ D' : Ends, (∀ σ' H', P σ' H' → D'.nx σ' H') → a D' σ H) (hn : c = false → P σ H) (hr : ∀ σ' H', P σ' H' → r D σ' H') : tSeq (tIfS t a tNext) r D σ H := by
  refine h _ ?_
  cases c with
  | true => exact iteT (ha rfl _ hr)
  | false => exact iteF (hr σ H (hn rfl))
end L2
namespace L2
open PySem PySem.Spec PyProof.Rows
end L2
namespace M26
open PySem L2 PyProof.Rows
noncomputable abbrev abcS : Str := Str.ofString "abcdefghijklmnopqrstuvwxyz"
theorem at_let {i : Int} (h0 : 0 ≤ i) (h1 : i < 26) : atI abcS.cps.toList i = some (97 + i.toNat) := by
  have hall : ∀ k : Nat, k < 26 → abcS.cps.toList[k]? = some (97 + k) := by decide +kernel
  have := atI_nat (hall i.toNat (by omega))
  rwa [show ((i.toNat : Nat) : Int) = i by omega] at this
end M26
namespace L2
open PySem PySem.Spec PyProof.Rows
end L2
namespace L2
open PySem PySem.Spec PyProof.Rows
noncomputable def Iten (K : PySem.W.Frag) (a : Addr) : It :=
  ⟨fun i H => ∃ xs x, SqL K H a xs ∧ xs[i]? = some x, fun i H x H' => ∃ p y, H p = none ∧ x = .ref p ∧ (∀ xs, SqL K H a xs → xs[i]? = some y) ∧ H' = upd H p (.tup [.int (i : Int), y]), fun i H => ∃ xs, SqL K H a xs ∧ xs.length ≤ i⟩
section
variable {X : Cx} {pins : List (Addr × Obj)} {σ : St} {H : Hp} {s : Shared} {h' : Heap}
theorem Inv.turned2 {t' : Nat} {e it : Addr} (I : Inv X pins σ H s) (k : ∀ b o, b ≠ e → b ≠ it → s.heap.get? b = some o → h'.get? b = some o) (fe : FpOk X pins H e) (fi : FpOk X pins H it) : Inv X pins σ H { s with heap := h', toks := t' } := by
  have ne : ∀ b u, H b = some u → b ≠ e := fun b u q z => by rw [z, fe.1] at q; cases q
  have ni : ∀ b u, H b = some u → b ≠ it := fun b u q z => by rw [z, fi.1] at q; cases q
  have kk : ∀ b o, b ∉ [e, it] → s.heap.get? b = some o → h'.get? b = some o := fun b o hc q => k b o (fun z => hc (by simp [z])) (fun z => hc (by simp [z])) q
  refine I.step (g' := s.gens) (d' := s.drawn) (ch := [e, it]) (fun b hb => ?_) (fun b o _ _ hc e _ => kk b o hc e) (fun b o _ _ hc e _ => ⟨o.slots, kk b o hc e⟩) (fun _ _ _ _ n => n)
    (fun b o hc e => ⟨o, kk b o hc e⟩) (fun _ _ e => e) (fun _ _ _ e => e) (fun b ps e => ⟨#[], by rw [e]; simp⟩) (fun m hm => ?_) (fun b u q => ?_) I.bare
  · rcases List.mem_cons.mp hb with z | z
    · subst z; exact ⟨fe.2.2.2.1, fe.2.1, fe.2.2.2.2.1, fe.2.2.2.2.2⟩
    · have z : b = it := by simpa using z
      subst z; exact ⟨fi.2.2.2.1, fi.2.1, fi.2.2.2.2.1, fi.2.2.2.2.2⟩
  · obtain ⟨o, es, ep, ho, r⟩ := hm
    exact ⟨o, es, ep, k _ o (Ne.symm fe.2.1) (Ne.symm fi.2.1) ho, r⟩
  · refine (I.hok b u q).stay (fun c v hc z => k c v ?_ ?_ z) (fun _ z => z) fun _ _ z => z
    · rcases hc with y | y
      · rw [y]; exact ne b u q
      · exact ne c _ y
    · rcases hc with y | y
      · rw [y]; exact ni b u q
      · exact ni c _ y
theorem FpOk.upd {b p : Addr} {o : HO} (h : FpOk X pins H b) (hn : b ≠ p) : FpOk X pins (L2.upd H p o) b := ⟨by rw [upd_ne hn]; exact h.1, h.2⟩
end
theorem turn_enum {P : Program} {w : World} {K : PySem.W.Frag} {elts : List Expr} {x1 : Nat} {tp : Pos} (a e it : Addr) (hne : e ≠ it) : Turn P w K (.Tuple elts x1 tp) (Iten K a) [e, it] e (fun i h => (∃ old, IsEnum h e it i old) ∧ h.IsListIter it a i) where
  mem := by simp
  obj := fun i h st b hb => by
    obtain ⟨⟨old, he⟩, o, ho, c, d⟩ := st
    rcases List.mem_cons.mp hb with z | z
    · subst z
      exact ⟨_, he, fun v z => by cases z⟩
    · have z : b = it := by simpa using z
      subst z
      exact ⟨o, ho, fun v z => by rw [d] at z; cases z⟩
  keep := fun i h h' st k => by
    obtain ⟨⟨old, he⟩, hi⟩ := st
    exact ⟨⟨old, k e (by simp) _ he⟩, hi.at fun o q => k it (by simp) o q⟩
  item := by
    intro X hP hw hK hc i pins s σ H E I hf st hg
    subst hP hw hK
    obtain ⟨xs, x, hq, hx⟩ := hg
    obtain ⟨its, rv, p, hz⟩ := I.list hq
    obtain ⟨u, hu, ru⟩ := rv.get hx
    obtain ⟨⟨old, he⟩, hit⟩ := st
    have fe := hf e (by simp)
    have fi := hf it (by simp)
    refine wpAny_pyNext_enum_item he hit p.isList (x := u) (by simpa using hu) hne fun h' ho hit' hT hsz hk => ⟨_, rfl, ?_⟩
    refine wpAny_letOwnedTupleGo_enum ho fun h2 he2 hs2 => ?_
    have he2' : IsEnum h2 e it ((i : Int) + 1) u := he2
    have hs2' : Heap.SameBut e h' h2 := hs2
    have hle : e < s.heap.objs.size := Heap.lt_size he
    have hli : it < s.heap.objs.size := by obtain ⟨o, q, _⟩ := hit; exact Heap.lt_size q
    have hn : H s.heap.objs.size = none := I.hok.fresh (Nat.le_refl _)
    have hT2 : h2.get? s.heap.objs.size = some { cls := .type "tuple", data := .seq #[.int i s.toks, u] } := (hs2'.2 _ (Nat.ne_of_gt hle)).trans hT
    have I1 : Inv X pins σ (upd H s.heap.objs.size (.tup [.int (i : Int), x])) { s with heap := s.heap.push { cls := .type "tuple", data := .seq #[.int i s.toks, u] }, toks := s.toks + 1 } :=
      I.laid (fun b o q => Heap.get?_push_of_some _ q) (Nat.le_refl _) ⟨by show 2 ≤ sizeLine; decide, [.int i s.toks, u], .cons ⟨s.toks, rfl⟩ (.cons ru .nil), ⟨_, Heap.get?_push_size _ rfl, rfl, _, rfl⟩, _, Heap.get?_push_size _ rfl, rfl⟩
    have kk : ∀ (b : Addr) (o : Obj), b ≠ e → b ≠ it → (s.heap.push { cls := .type "tuple", data := .seq #[.int i s.toks, u] }).get? b = some o → h2.get? b = some o := fun b o be bi q' => by
      by_cases hb : b = s.heap.objs.size
      · subst hb
        rw [Heap.get?_push_size _ rfl] at q'
        cases q'
        exact hT2
      · rw [Heap.get?_push_ne _ _ _ hb] at q'
        exact (hs2'.2 b be).trans (hk b o be bi q')
    have I2 := Inv.turned2 (h' := h2) (t' := s.toks + 1) (e := e) (it := it) I1 kk (fe.upd (Nat.ne_of_lt hle)) (fi.upd (Nat.ne_of_lt hli))
    refine ⟨.ref s.heap.objs.size, _, I2, rfl, ⟨_, x, hn, rfl, fun ys hy => by rw [I.list_inj hy hq]; exact hx, rfl⟩, ⟨⟨u, by rw [Int.natCast_add]; exact he2'⟩, hit'.at fun o q => (hs2'.2 it (Ne.symm hne)).trans q⟩, fun b hb => ?_⟩
    rcases List.mem_cons.mp hb with z | z
    · subst z; exact (fe.upd (Nat.ne_of_lt hle)).1
    · have z : b = it := by simpa using z
      subst z; exact (fi.upd (Nat.ne_of_lt hli)).1
  done := by
    intro X hP hw hK hc i pins s σ H E I hf st hg
    subst hP hw hK
    obtain ⟨xs, hq, hx⟩ := hg
    obtain ⟨its, rv, p, hz⟩ := I.list hq
    obtain ⟨⟨old, he⟩, hit⟩ := st
    obtain ⟨f0, f1, f2, f3, f4, f5⟩ := hf it (by simp)
    have hl := rv.length
    exact wpAny_pyNext_enum_end (I.ok.hd hc) he hit p.isList (by simp; omega) fun h' eb => ⟨rfl, I.turned (t' := s.toks) (fun b o hb e => eb b o hb e) f0 f1 f3 f4 f5⟩
  self := fun _ _ _ _ _ st h => by
    obtain ⟨⟨old, he⟩, _⟩ := st
    exact wpAny_pyIter_enum he h
section
variable {X : Cx}
noncomputable def iEnum (K : PySem.W.Frag) (ta : TA) : TI := fun σ H R => ta σ H fun vs H1 => ∃ a xs, vs = [.ref a] ∧ H1 a = some (.lst xs) ∧ R (Iten K a) H1
theorem pi_enum {a : Expr} {ta : TA} {p pos tp : Pos} {elts : List Expr} {x1 : Nat} (hg : Gl X "enumerate") (hm : X.mg "enumerate" = none) (ha : PA X [a] ta) (hs : starEach [a] X.env = [(false, eval a X.env)] := by rfl) : PI X (.Tuple elts x1 tp) (.Call (.Name "enumerate" p) [a] [] pos) (iEnum X.K ta) := by
  intro pins s σ H R I h
  refine Call_ (ld_blt I hg hm boot_enumerate (PyProof.Rows.callWith_type1 (thn (ha pos pins s σ H _ I h) fun us s1 ⟨vs, H1, I1, r1, q1⟩ => ?_) hs rfl))
  obtain ⟨l, xs, e, hq, q⟩ := q1
  subst e
  cases r1 with
  | cons r rr =>
    cases rr
    cases r
    obtain ⟨hz, its, n, rv, hl⟩ := (show ObjOk X.prog X.w H1 s1.heap l (.lst xs) from I1.hok l _ hq)
    refine call_enumerate_1 hl fun h' he hit hsz hk => ?_
    refine wpAny_pyIter_enum he ?_
    have I2 : Inv X pins σ H1 { s1 with heap := h' } := I1.kept (t' := s1.toks) hk
    refine ⟨s1.heap.objs.size + 1, [s1.heap.objs.size + 1, s1.heap.objs.size], _, _, H1, rfl, I2, turn_enum l _ _ (Nat.succ_ne_self _), ⟨⟨_, he⟩, hit⟩, fun b hb => ?_, q⟩
    rcases List.mem_cons.mp hb with z | z
    · subst z; exact I1.fpOk (Nat.le_succ _) (I1.hok.fresh (Nat.le_succ _))
    · have z : b = s1.heap.objs.size := by simpa using z
      subst z; exact I1.fpOk (Nat.le_refl _) (I1.hok.fresh (Nat.le_refl _))
theorem for_enum {K : PySem.W.Frag} {a : Addr} {xs : List V} {g : TG} {tb : TS} {D : Ends} {σ : St} {H : Hp} (Pv : Nat → St → Hp → Prop) (h0 : Pv 0 σ H) (hl : ∀ i σ H, i ≤ xs.length → Pv i σ H → SqL K H a xs)
    (hs : ∀ i x σ H p, xs[i]? = some x → Pv i σ H → H p = none → g (.ref p) σ (upd H p (.tup [.int (i : Int), x])) fun σ2 H2 => tb { D with nx := Pv (i + 1), ct := Pv (i + 1), bk := D.nx } σ2 H2) (hd : ∀ σ H, Pv xs.length σ H → D.nx σ H) :
    ∃ W : Nat → Nat → St → Hp → Prop, (∃ m, W 0 m σ H) ∧ ∀ i m σ H, W i m σ H →
      ((Iten K a).stop i H ∧ D.nx σ H) ∨ ((Iten K a).go i H ∧ ∃ N : St → Hp → Prop, (∀ σ' H', N σ' H' → ∃ m', m' < m ∧ W (i + 1) m' σ' H') ∧ ∀ x H', (Iten K a).yld i H x H' → g x σ H' fun σ2 H2 => tb { D with nx := N, ct := N, bk := D.nx } σ2 H2) := by
  refine ⟨fun i m σ H => m = xs.length - i ∧ i ≤ xs.length ∧ Pv i σ H, ⟨xs.length, by simp, Nat.zero_le _, h0⟩, ?_⟩
  rintro i m σ H ⟨rfl, hi, p⟩
  have q := hl i σ H hi p
  by_cases hlt : i < xs.length
  · refine .inr ⟨⟨xs, xs[i], q, by simp [hlt]⟩, Pv (i + 1), fun σ' H' p' => ⟨xs.length - (i + 1), by omega, rfl, hlt, p'⟩, fun x H' y => ?_⟩
    obtain ⟨r, z, hr, e, y, e'⟩ := y
    subst e e'
    exact hs i z σ H r (y xs q) p hr
  · have e : i = xs.length := by omega
    subst e
    exact .inl ⟨⟨xs, q, Nat.le_refl _⟩, hd σ H p⟩
end
end L2
namespace L2
open PySem PySem.Spec PyProof.Rows
set_option genInjectivity false in
set_option genSizeOf false in
structure CompOkG (X : Cx) (scope : Scope) (cl : List (Str × Addr)) (xs : List Str) (fr : List (Str × Nat)) : Prop where
  clos : closureFor scope X.env = pure cl
  kind : scope.kind = .function
  nocell : ∀ y ∈ scope.names, y.2 ≠ .cell
  names : ∀ y ∈ scope.names, y.2 = .local → scope.names.lookup y.1 = some .local
  sub : ∀ y c, cl.lookup y = some c → X.env.cells.lookup y = some c
  has : ∀ y, ((relabel scope X.env).names.lookup y = some .cell ∨ (relabel scope X.env).names.lookup y = some .free) → ∃ c, cl.lookup y = some c
  fre : ∀ p ∈ fr, X.N[p.2]? = some p.1 ∧ (X.env.scope.names.lookup p.1 = some .cell ∨ X.env.scope.names.lookup p.1 = some .free) ∧ ((relabel scope X.env).names.lookup p.1 = some .cell ∨ (relabel scope X.env).names.lookup p.1 = some .free)
noncomputable def nones (n : Nat) : St := List.replicate n none
section
variable {X : Cx} {pins : List (Addr × Obj)} {σ : St} {H : Hp} {s : Shared} {scope : Scope} {cl : List (Str × Addr)} {xs : List Str} {fr : List (Str × Nat)} {fp : List Addr}
theorem inv_compG (C : CompOkG X scope cl xs fr) (I : Inv X pins σ H s) (hf : ∀ b ∈ fp, FpOk X pins H b ∧ b < s.heap.objs.size) {h' : Heap} {t : Nat} {o : Obj} {m : Str → Option Value} (hn : h'.Ns s.heap.objs.size m)
    (hs : Heap.SameBut s.heap.objs.size (s.heap.push o) h') : Inv (cxComp X scope cl (xs ++ fr.map (·.1)) fp s H) [] (nones xs.length ++ slotsC fr σ) H { s with heap := h', toks := t } := by
  have old : ∀ b u, s.heap.get? b = some u → h'.get? b = some u := fun b u e => hs.extBut b u (Nat.ne_of_lt (Heap.lt_size e)) (Heap.get?_push_of_some _ e)
  have celllt : ∀ y c, X.env.cells.lookup y = some c → c < s.heap.objs.size := fun y c e => by
    obtain ⟨v, ob, ho, _⟩ := I.cell y c e
    exact Heap.lt_size ho
  refine ⟨⟨I.ok.mod, C.kind, I.ok.glob, I.ok.blt, Nat.le_refl _, fun a b c ea eb => I.ok.inj a b c (C.sub a c ea) (C.sub b c eb), fun y hy => C.has y hy, (fun y c hy => nomatch hy), I.ok.hd, I.ok.frames, .inl rfl, fun b hb => ⟨Nat.ne_of_lt (hf b hb).2, fun y c e => (hf b hb).1.2.2.2.2.1 y c (C.sub y c e)⟩, I.bs, Nat.le_trans I.ok.bsz I.sz, fun b ob e hb => ?_, fun b hb hz => ?_, I.stack, I.stkFree⟩,
    rfl, I.bare, ⟨fun b u e _ _ _ => old b u e, fun b u e _ _ _ => ⟨u.slots, old b u e⟩, fun b u e n _ => n, fun b u e _ => ⟨u, old b u e⟩, fun _ _ e => e, fun _ _ _ e => e, fun b ps e => ⟨#[], by rw [Array.append_empty]; exact e⟩⟩, ⟨m, hn, fun i y v e1 e2 e3 => ?_⟩, fun y c e => ?_, I.hok.fresh (Nat.le_refl _), fun y c e => I.freeC y c (C.sub y c e), (fun p hp => by cases hp), I.hok.kept old, ?_⟩
  · -- noex
    rcases (hf b hb).1.2.2.2.1 with z | z
    · exact I.ok.noex b ob e z
    · exact absurd (Nat.lt_of_lt_of_le (Heap.lt_size (I.ok.bs b ob e).1) z) (Nat.lt_irrefl _)
  · -- exfs
    rcases List.mem_cons.mp (I.stkSub b hz) with e | e
    · exact (hf b hb).1.2.1 e
    · exact (hf b hb).1.2.2.1 e
  · -- a free name's value
    have e1x : (xs ++ fr.map (·.1))[i]? = some y := e1
    have e2x : (nones xs.length ++ slotsC fr σ)[i]? = some (some v) := e2
    have ln : (nones xs.length).length = xs.length := List.length_replicate
    by_cases hi : i < xs.length
    · rw [List.getElem?_append_left (by rw [ln]; exact hi)] at e2x
      unfold nones at e2x
      rw [List.getElem?_replicate, if_pos hi] at e2x
      cases e2x
    · rw [List.getElem?_append_right (by omega)] at e1x
      rw [List.getElem?_append_right (by rw [ln]; omega), ln] at e2x
      generalize i - xs.length = i at e1x e2x
      have e1' : (fr.map (·.1))[i]? = some y := e1x
      have e2' : (slotsC fr σ)[i]? = some (some v) := e2x
      rw [List.getElem?_map] at e1'
      unfold slotsC at e2'
      rw [List.getElem?_map] at e2'
      cases ep : fr[i]? with
      | none => rw [ep] at e1'; cases e1'
      | some p =>
        rw [ep] at e1' e2'
        have ey : p.1 = y := Option.some.inj e1'
        have ev : (σ[p.2]?).join = some v := Option.some.inj e2'
        obtain ⟨f1, f2, f3⟩ := C.fre p (List.mem_of_getElem? ep)
        rw [ey] at f1 f2 f3
        have ev' : σ[p.2]? = some (some v) := by
          cases q : σ[p.2]? with
          | none => rw [q] at ev; cases ev
          | some z => rw [q] at ev; cases z with
            | none => cases ev
            | some z => exact congrArg some ev
        obtain ⟨m', _, hl⟩ := I.loc
        obtain ⟨u, r, l⟩ := hl p.2 y v f1 ev' (.inr f2)
        refine ⟨u, r, .inr ⟨f3, ?_⟩⟩
        rcases l with ⟨k, _⟩ | ⟨_, c, ec, hc⟩
        · exfalso
          have k' : X.env.scope.names.lookup y = some .local := k
          rcases f2 with z | z <;> rw [z] at k' <;> cases k'
        · obtain ⟨c', ec'⟩ := C.has y f3
          have := C.sub y c' ec'
          rw [ec] at this
          cases this
          obtain ⟨ob, ho, hd⟩ := hc
          exact ⟨c, ec', ob, old _ _ ho, hd⟩
  · obtain ⟨v, ob, ho, hd⟩ := I.cell y c (C.sub y c e)
    exact ⟨v, ob, old _ _ ho, hd⟩
  · show (nones xs.length ++ slotsC fr σ).length = (xs ++ fr.map (·.1)).length
    simp [slotsC, nones]
end
noncomputable def tCompG (n : Nat) (fr : List (Str × Nat)) (wi : TI) (g : TG) (tt : TT) (te : TE) : TE := fun σ H Q => wi σ H fun J H1 => ∀ D, H1 D = none → ∃ W : Nat → Nat → List V → Hp → Prop, (∃ m, W 0 m [] (upd H1 D (.lst []))) ∧ ∀ i m acc H2, W i m acc H2 →
  H2 D = some (.lst acc) ∧ ((J.stop i H2 ∧ Q (.ref D) H2) ∨ (acc.length < sizeLine ∧ J.go i H2 ∧ ∀ x H3, J.yld i H2 x H3 → g x (nones n ++ slotsC fr σ) H3 fun σ1 H3' => ∃ vs : St, vs.length = n ∧ σ1 = vs ++ slotsC fr σ ∧ tt σ1 H3' fun b H4 =>
    if b = true then te σ1 H4 fun y H5 => H5 D = some (.lst acc) ∧ ∃ m', m' < m ∧ W (i + 1) m' (acc ++ [y]) (upd H5 D (.lst (acc ++ [y]))) else ∃ m', m' < m ∧ W (i + 1) m' acc H4))
theorem weak_slots {vs r : St} {n j : Nat} {v : V} (hl : vs.length = n) (e : (nones n ++ r)[j]? = some (some v)) : (vs ++ r)[j]? = some (some v) := by
  have ln : (nones n).length = n := List.length_replicate
  by_cases hj : j < n
  · rw [List.getElem?_append_left (by rw [ln]; exact hj)] at e
    unfold nones at e
    rw [List.getElem?_replicate, if_pos hj] at e
    cases e
  · rw [List.getElem?_append_right (by rw [ln]; omega), ln] at e
    rw [List.getElem?_append_right (by omega), hl]
    exact e
section
variable {X : Cx} {scope : Scope} {cl : List (Str × Addr)} {xs : List Str} {fr : List (Str × Nat)} {elt iter tgt : Expr} {g : TG} {ifs : List Expr} {px pos : Pos} {wi : TI} {tt : TT} {te : TE}
theorem comp_loopG {Xc : Cx} {it D : Addr} {fp : List Addr} {tn : Nat → Heap → Prop} {J : It} {W : Nat → Nat → List V → Hp → Prop} {n m0 : Nat} {r : St} {s₀ : Shared} {H₀ : Hp} {R0 : Hp → Prop} {Rr : Result → Shared → Prop}
    (hcm : Xc.calm = true) (T : Turn Xc.prog Xc.w Xc.K tgt J fp it tn) (hgt : PG Xc tgt g) (ht : PTs Xc ifs tt) (he : PE Xc elt te) (hxe : ∀ e s, Xc.xe e s → False) (stat : ∀ H' : Hp, (∀ b ∈ fp, H' b = none) → ∀ b ∈ fp, FpOk Xc [] H' b)
    (turn : ∀ i m acc H2, W i m acc H2 → H2 D = some (.lst acc) ∧ ((J.stop i H2 ∧ R0 H2) ∨ (acc.length < sizeLine ∧ J.go i H2 ∧ ∀ x H3, J.yld i H2 x H3 → g x (nones n ++ r) H3 fun σ1 H3' => ∃ vs : St, vs.length = n ∧ σ1 = vs ++ r ∧ tt σ1 H3' fun b H4 =>
      if b = true then te σ1 H4 fun y H5 => H5 D = some (.lst acc) ∧ ∃ m', m' < m ∧ W (i + 1) m' (acc ++ [y]) (upd H5 D (.lst (acc ++ [y]))) else ∃ m', m' < m ∧ W (i + 1) m' acc H4)))
    (I : Inv Xc [] (nones n ++ r) H₀ s₀) (st : tn 0 s₀.heap) (fr : ∀ b ∈ fp, H₀ b = none) (w0 : W 0 m0 [] H₀) (hR : ∀ s4 H', Inv Xc [] (nones n ++ r) H' s4 → R0 H' → Rr (.ok .next) s4) :
    codeAny (model Xc.prog Xc.w) Xc.A (.compLoop (.ListComp elt [⟨tgt, iter, ifs, 0⟩] scope pos) 0 (.ref it) (.ref D) Xc.env) Rr s₀ := by
  refine compLoop_go (fun k s' => ∃ i acc H', Inv Xc [] (nones n ++ r) H' s' ∧ tn i s'.heap ∧ (∀ b ∈ fp, H' b = none) ∧ W i k acc H') ?_ m0 ⟨0, [], _, I, st, fr, w0⟩
  rintro k s' ⟨i, acc, H', Ic, st, frH, w⟩
  obtain ⟨hDl, ⟨stop, qn⟩ | ⟨hlen, go, step⟩⟩ := turn i k acc H' w
  · refine wpAny_mono (T.done Xc rfl rfl rfl hcm i [] s' _ H' (fun _ _ => False) Ic (stat _ frH) st stop) (fun r s4 ⟨hr, I5⟩ => ?_) (fun _ _ z => z)
    subst hr
    exact hR s4 H' I5 qn
  · refine wpAny_mono (T.item Xc rfl rfl rfl hcm i [] s' _ H' (fun _ _ => False) Ic (stat _ frH) st go) (fun r s4 ⟨u, hr, h4⟩ => ?_) (fun _ _ z => z)
    subst hr
    refine wpAny_mono h4 (fun _ s5 ⟨y, H5, I5, r5, y5, st5, fr5⟩ => ?_) (fun _ _ z => z)
    have I5' := I5.pinned (stat _ fr5) (T.obj _ _ st5)
    refine wpAny_mono (hgt _ s5 _ H5 y u _ I5' r5 (step y H5 y5)) (fun _ s6 ⟨σ6, H6, I6, vs6, lv6, e6, q6⟩ => ?_) (fun _ _ z => hxe _ _ z)
    subst e6
    have again : ∀ {s7 : Shared} {H7 : Hp} {m' : Nat} {acc' : List V}, Inv Xc ([] ++ pinsAt fp s5.heap) (vs6 ++ r) H7 s7 → W (i + 1) m' acc' H7 →
        ∃ i acc H', Inv Xc [] (nones n ++ r) H' s7 ∧ tn i s7.heap ∧ (∀ b ∈ fp, H' b = none) ∧ W i m' acc H' := fun {s7 H7 m' acc'} I7 w7 => by
      refine ⟨i + 1, acc', H7, (I7.weak (by simp [nones, lv6]) fun j v e => weak_slots lv6 e).unpinned, T.keep _ _ _ st5 fun b hb o e => (I7.pin (b, o) (List.mem_append_right _ (List.mem_append_right _ (mem_pinsAt hb e)))).1, fun b hb => ?_, w7⟩
      obtain ⟨o, e, d⟩ := T.obj _ _ st5 b hb
      exact (I7.pin (b, o) (List.mem_append_right _ (List.mem_append_right _ (mem_pinsAt hb e)))).2.1
    clear step turn stat hgt
    refine wpAny_mono (ht _ s6 _ H6 _ I6 q6) (fun b s7 ⟨H7, I7, q7⟩ => ?_) (fun _ _ z => hxe _ _ z)
    cases b with
    | false =>
      obtain ⟨m', hm, w7⟩ := (show ∃ m', m' < k ∧ W (i + 1) m' acc H7 from q7)
      exact ⟨m', hm, again I7 w7⟩
    | true =>
      refine wpAny_mono (he _ s7 _ H7 _ I7 q7) (fun v s8 ⟨y8, H8, I8, r8, hD8, m', hm, w8⟩ => ?_) (fun _ _ z => hxe _ _ z)
      refine wpAny_mono (mt_append (X := Xc) _ s8 _ H8 (.ref D) [y8] (.ref D) [v] (fun _ H9 => H9 = upd H8 D (.lst (acc ++ [y8]))) I8 rfl (.cons r8 .nil) ⟨D, acc, y8, rfl, rfl, hD8, hlen, rfl⟩) (fun _ s9 ⟨_, H9, I9, _, e9⟩ => ?_) (fun _ _ z => hxe _ _ z)
      subst e9
      exact ⟨m', hm, again I9 w8⟩
theorem comp_blockG {pins : List (Addr × Obj)} {σ : St} {H3 : Hp} {s3 : Shared} {R0 : Hp → Prop} {it D : Addr} {fp : List Addr} {tn : Nat → Heap → Prop} {J : It} {W : Nat → Nat → List V → Hp → Prop} {m0 : Nat} {h₁ : Heap} {t : Nat} {ob : Obj} {ns : Str → Option Value} {Rr : Result → Shared → Prop} (C : CompOkG X scope cl xs fr) (hc : X.calm = true)
    (hgt : ∀ fp s H, PG (cxComp X scope cl (xs ++ fr.map (·.1)) fp s H) tgt g) (ht : ∀ fp s H, PTs (cxComp X scope cl (xs ++ fr.map (·.1)) fp s H) ifs tt) (he : ∀ fp s H, PE (cxComp X scope cl (xs ++ fr.map (·.1)) fp s H) elt te)
    (I3 : Inv X pins σ H3 s3) (T : Turn X.prog X.w X.K tgt J fp it tn) (st : tn 0 s3.heap) (f3 : ∀ b ∈ fp, FpOk X pins H3 b) (w0 : W 0 m0 [] H3)
    (turn : ∀ i m acc H2, W i m acc H2 → H2 D = some (.lst acc) ∧ ((J.stop i H2 ∧ R0 H2) ∨ (acc.length < sizeLine ∧ J.go i H2 ∧ ∀ x H3, J.yld i H2 x H3 → g x (nones xs.length ++ slotsC fr σ) H3 fun σ1 H3' => ∃ vs : St, vs.length = xs.length ∧ σ1 = vs ++ slotsC fr σ ∧ tt σ1 H3' fun b H4 =>
      if b = true then te σ1 H4 fun y H5 => H5 D = some (.lst acc) ∧ ∃ m', m' < m ∧ W (i + 1) m' (acc ++ [y]) (upd H5 D (.lst (acc ++ [y]))) else ∃ m', m' < m ∧ W (i + 1) m' acc H4)))
    (hns : h₁.Ns s3.heap.objs.size ns) (hsb : Heap.SameBut s3.heap.objs.size (s3.heap.push ob) h₁)
    (hQ : ∀ (s₄ : Shared) (H₄ : Hp) (Cn : Addr) (m : Str → Option Value), Inv X pins σ H₄ s₄ → s₄.heap.Ns Cn m → H₄ Cn = none → Cn ≠ X.env.locals → Cn ∉ X.fs → X.s₀.heap.objs.size ≤ Cn → (∀ y c, X.env.cells.lookup y = some c → c ≠ Cn) → (∀ p ∈ X.pn ++ pins, p.1 ≠ Cn) → R0 H₄ → Cn = s3.heap.objs.size → Rr (.ok .next) s₄) :
    codeAny (model X.prog X.w) X.A (.compStart (.ListComp elt [⟨tgt, iter, ifs, 0⟩] scope pos) 0 (.ref it) (.ref D) (compEnvC scope cl s3.heap.objs.size X.env)) Rr { s3 with heap := h₁, toks := t } := by
  have flt : ∀ b ∈ fp, b < s3.heap.objs.size := fun b hb => by
    obtain ⟨o, ho, _⟩ := T.obj _ _ st b hb
    exact Heap.lt_size ho
  have st4 : tn 0 h₁ := T.keep _ _ _ st fun b _ o e => hsb.extBut b o (Nat.ne_of_lt (Heap.lt_size e)) (Heap.get?_push_of_some _ e)
  have loop := comp_loopG (Xc := cxComp X scope cl (xs ++ fr.map (·.1)) fp s3 H3) (iter := iter) (scope := scope) (pos := pos) (Rr := Rr) hc T (hgt _ _ _) (ht _ _ _) (he _ _ _) (fun _ _ z => z)
    (fun H' hn b hb => ⟨hn b hb, Nat.ne_of_lt (flt b hb), fun hz => (List.mem_cons.mp (I3.stkSub b hz)).elim (f3 b hb).2.1 (f3 b hb).2.2.1, .inl hb, fun y c e => (f3 b hb).2.2.2.2.1 y c (C.sub y c e), fun p hp => nomatch hp⟩)
    turn (inv_compG C I3 (fp := fp) (fun b hb => ⟨f3 b hb, flt b hb⟩) (t := t) hns hsb) st4 (fun b hb => (f3 b hb).1) w0 fun s4 H' I5 q => by
      obtain ⟨m, hm, _⟩ := I5.loc
      exact hQ s4 H' s3.heap.objs.size m (comp_back I3 f3 I5) hm I5.free (fun z => Nat.lt_irrefl _ (z ▸ I3.lt)) (I3.nofs (Nat.le_refl _)) I3.sz
        (fun y c e z => by obtain ⟨v, ob, ho, _⟩ := I3.cell y c e; exact Nat.lt_irrefl _ (z ▸ Heap.lt_size ho)) (fun p hp z => Nat.lt_irrefl _ (z ▸ Heap.lt_size (I3.pin p hp).1)) q rfl
  exact codeAny_compStart_list loop (T.self X.A 0 _ _ _ st4 loop)
theorem comp_walkG {pins : List (Addr × Obj)} {σ : St} {H : Hp} {s : Shared} {Q : VK} {use : Option (Value → Sem Unit)} {Qv : Value → Shared → Prop} {E : Value → Shared → Prop} (C : CompOkG X scope cl xs fr) (hc : X.calm = true) (hi : PI X tgt iter wi) (hgt : ∀ fp s H, PG (cxComp X scope cl (xs ++ fr.map (·.1)) fp s H) tgt g)
    (ht : ∀ fp s H, PTs (cxComp X scope cl (xs ++ fr.map (·.1)) fp s H) ifs tt) (he : ∀ fp s H, PE (cxComp X scope cl (xs ++ fr.map (·.1)) fp s H) elt te)
    (I : Inv X pins σ H s) (h : tCompG xs.length fr wi g tt te σ H Q) (hs : ∀ x, foldedSetIterable iter X.env x = pure x) (hE : ∀ e s', X.xe e s' → E e s')
    (hQ : ∀ (s₄ : Shared) (H₄ : Hp) (D Cn : Addr) (m : Str → Option Value), Inv X pins σ H₄ s₄ → s₄.heap.Ns Cn m → H₄ Cn = none → Cn ≠ X.env.locals → Cn ∉ X.fs → X.s₀.heap.objs.size ≤ Cn → (∀ y c, X.env.cells.lookup y = some c → c ≠ Cn) → (∀ p ∈ X.pn ++ pins, p.1 ≠ Cn) → Q (.ref D) H₄ →
      compPost (model X.prog X.w) X.A E use Qv (.ref D) Cn (.ok .next) s₄) :
    wpAny (model X.prog X.w) X.A (comprehension (.ListComp elt [⟨tgt, iter, ifs, 0⟩] scope pos) scope X.env (firstIterPos [⟨tgt, iter, ifs, 0⟩] pos) (newList []) false (eval iter X.env) use) Qv E s := by
  refine wpAny_comprehension_free (use := use) rfl hs C.clos C.kind C.names (wpAny_mono (hi pins s σ H _ I h) (fun v s1 h1 => wpAny_mono h1 (fun itv s2 h2 => ?_) hE) hE)
  obtain ⟨it, fp, tn, J, H2, e, I2, T, st2, f2, q⟩ := h2
  subst e
  refine wpAny_newObj_type (wpAny_newFunctionEnv C.nocell (by intro y hy; simp at hy) (fun h₁ hns₁ hsb₁ => ?_) C.kind)
  obtain ⟨W, ⟨m0, w0⟩, turn⟩ := q s2.heap.objs.size I2.fresh
  have fD : ∀ b ∈ fp, b ≠ s2.heap.objs.size := fun b hb z => by
    obtain ⟨o, ho, _⟩ := T.obj _ _ st2 b hb
    exact Nat.lt_irrefl _ (z ▸ Heap.lt_size ho)
  exact comp_blockG C hc hgt ht he (I2.lnew (ys := []) (its := []) .nil (Nat.zero_le _)) T (T.keep _ _ _ st2 fun b _ o e => Heap.get?_push_of_some _ e)
    (fun b hb => ⟨by rw [upd_ne (fD b hb)]; exact (f2 b hb).1, (f2 b hb).2⟩) w0 turn hns₁ hsb₁ fun s4 H4 Cn m a1 a2 a3 a4 a5 a6 a7 a8 a9 e => by
      have := hQ s4 H4 _ Cn m a1 a2 a3 a4 a5 a6 a7 a8 a9
      rw [e] at this; exact this
theorem pe_compG (C : CompOkG X scope cl xs fr) (hc : X.calm = true) (hi : PI X tgt iter wi) (hgt : ∀ fp s H, PG (cxComp X scope cl (xs ++ fr.map (·.1)) fp s H) tgt g) (ht : ∀ fp s H, PTs (cxComp X scope cl (xs ++ fr.map (·.1)) fp s H) ifs tt) (he : ∀ fp s H, PE (cxComp X scope cl (xs ++ fr.map (·.1)) fp s H) elt te)
    (hs : ∀ x, foldedSetIterable iter X.env x = pure x := by intro _; rfl) : PE X (.ListComp elt [⟨tgt, iter, ifs, 0⟩] scope pos) (tCompG xs.length fr wi g tt te) := by
  intro pins s σ H Q I h
  rw [eval_ListComp]
  refine comp_walkG (use := none) (Q := Q) C hc hi hgt ht he I h hs (fun _ _ z => z) ?_
  intro s₄ H₄ D Cn m I4 hm hC hL hF hS hcl hpn q
  refine ⟨m, hm, fun h' hs' => ⟨.ref D, H₄, ?_, rfl, q⟩⟩
  exact I4.turned (t' := s₄.toks) (it := Cn) (fun b o hb e => (hs'.2 b hb).trans e) hC (Ne.symm (Ne.symm hL)) (.inr hS) hcl hpn
theorem ps_setCG {i : Nat} {y : Str} {py spos : Pos} (C : CompOkG X scope cl xs fr) (hc : X.calm = true) (hN : X.N.Nodup) (hiy : X.N[i]? = some y) (hy : Loc X.env.scope y) (hi : PI X tgt iter wi) (hgt : ∀ fp s H, PG (cxComp X scope cl (xs ++ fr.map (·.1)) fp s H) tgt g) (ht : ∀ fp s H, PTs (cxComp X scope cl (xs ++ fr.map (·.1)) fp s H) ifs tt)
    (he : ∀ fp s H, PE (cxComp X scope cl (xs ++ fr.map (·.1)) fp s H) elt te) (hsw : swapsWith (.ListComp elt [⟨tgt, iter, ifs, 0⟩] scope pos) (some (.Name y py)) spos.line X.env = pure true := by rfl)
    (hs : ∀ x, foldedSetIterable iter X.env x = pure x := by intro _; rfl) (hf : X.fn y = true ∨ X.env.scope.names.lookup y = some .local := by first | exact .inl rfl | exact .inr rfl | assumption) :
    PS X (.Assign [.Name y py] (.ListComp elt [⟨tgt, iter, ifs, 0⟩] scope pos) spos) (tAsg (tCompG xs.length fr wi g tt te) (gName i)) := by
  intro pins s σ H D I h
  rw [exec_Assign_Name_used _ _ _ _ hsw]
  refine wpAny_bind (wpAny_standAt (wpAny_bind ?_))
  show wpAny _ X.A (do let _ ← comprehension (.ListComp elt [⟨tgt, iter, ifs, 0⟩] scope pos) scope X.env _ (newList []) false (eval iter X.env) (some (assign (.Name y py) X.env))) _ _ s
  refine wpAny_bind (wpAny_mono (comp_walkG (use := some (assign (.Name y py) X.env)) (Qv := fun _ s' => SP X pins D .next s') C hc hi hgt ht he I h hs (fun _ _ z => z) ?_) (fun _ s' hq => wpAny_pure (wpAny_pure hq)) fun _ _ z => z)
  intro s₄ H₄ Dl Cn m I4 hm hC hL hF hS hcl hpn q
  obtain ⟨oC, es, ep, ho, hdat, r⟩ := id hm
  have I5 : Inv X (pins ++ [(Cn, oC)]) σ H₄ s₄ := I4.pins_of fun p hp => (List.mem_append.mp hp).elim (fun z => I4.pin p (List.mem_append_right _ z)) fun z => by
    cases List.mem_singleton.mp z
    exact ⟨ho, hC, hL, hF, fun v e => by rw [hdat] at e; cases e⟩
  have hg : PG X (.Name y py) (gName i) := pg_name hN hiy hy hf
  refine wpAny_mono (hg _ s₄ σ H₄ (.ref Dl) (.ref Dl) D.nx I5 rfl q) (fun _ s5 ⟨σ5, H5, I6, q5⟩ => ?_) (fun _ _ z => z)
  have hp := I6.pin (Cn, oC) (List.mem_append_right _ (List.mem_append_right _ (List.mem_singleton.mpr rfl)))
  refine ⟨m, ⟨oC, es, ep, hp.1, hdat, r⟩, fun h' hs' => ⟨σ5, H5, ?_, q5⟩⟩
  exact I6.unpinned.turned (t' := s5.toks) (it := Cn) (fun b o hb e => (hs'.2 b hb).trans e) hp.2.1 hL (.inr hS) hcl hpn
end
theorem compOkG {X : Cx} {scope : Scope} {cl : List (Str × Addr)} {xs : List Str} {fr : List (Str × Nat)} (clos : closureFor scope X.env = pure cl := by rfl) (kind : scope.kind = .function := by rfl)
    (nocell : (scope.names.all fun y => decide (y.2 ≠ .cell)) = true := by rfl) (names : (scope.names.all fun y => decide (y.2 = .local → scope.names.lookup y.1 = some .local)) = true := by decide +kernel)
    (sub : SubL X.env.cells cl := by repeat (first | exact trivial | refine ⟨rfl, ?_⟩))
    (has : ((relabel scope X.env).names.all fun p => (decide (p.2 ≠ .cell) && decide (p.2 ≠ .free)) || (cl.lookup p.1).isSome) = true := by rfl)
    (fre : FreL X.N X.env.scope.names (relabel scope X.env).names fr := by repeat (first | exact trivial | refine ⟨⟨rfl, .inl rfl, .inl rfl⟩, ?_⟩)) : CompOkG X scope cl xs fr where
  clos := clos
  kind := kind
  nocell := fun y hy => of_decide_eq_true (List.all_eq_true.mp nocell y hy)
  names := fun y hy => of_decide_eq_true (List.all_eq_true.mp names y hy)
  sub := fun y c e => SubL.mem sub (y, c) (mem_of_lookup e)
  has := fun y h => by
    have q : ∀ k, (k = NameKind.cell ∨ k = NameKind.free) → (relabel scope X.env).names.lookup y = some k → ∃ c, cl.lookup y = some c := fun k hk e => by
      have m := List.all_eq_true.mp has (y, k) (mem_of_lookup e)
      rcases hk with rfl | rfl
      · exact Option.isSome_iff_exists.mp (by simpa using m)
      · exact Option.isSome_iff_exists.mp (by simpa using m)
    rcases h with e | e
    · exact q _ (.inl rfl) e
    · exact q _ (.inr rfl) e
  fre := FreL.mem fre
section
variable {tt : TT} {te : TE} {g : TG} {fr : List (Str × Nat)} {n : Nat} {σ : St} {R : Hp → Prop} {D : Addr} {H1 : Hp}
theorem compG_list {K : PySem.W.Frag} {a : Addr} {xs : List V} (Pv : Nat → List V → Hp → Prop) (h0 : Pv 0 [] (upd H1 D (.lst []))) (hD : ∀ i acc H2, i ≤ xs.length → Pv i acc H2 → H2 D = some (.lst acc) ∧ acc.length < sizeLine ∧ SqL K H2 a xs)
    (hs : ∀ i x acc H2 (N : List V → Hp → Prop), xs[i]? = some x → (∀ acc' H', Pv (i + 1) acc' H' → N acc' H') → Pv i acc H2 → g x (nones n ++ slotsC fr σ) H2 fun σ1 H3' => ∃ vs : St, vs.length = n ∧ σ1 = vs ++ slotsC fr σ ∧ tt σ1 H3' fun b H4 =>
      if b = true then te σ1 H4 fun y H5 => H5 D = some (.lst acc) ∧ N (acc ++ [y]) (upd H5 D (.lst (acc ++ [y]))) else N acc H4)
    (hd : ∀ acc H2, Pv xs.length acc H2 → R H2) :
    ∃ W : Nat → Nat → List V → Hp → Prop, (∃ m, W 0 m [] (upd H1 D (.lst []))) ∧ ∀ i m acc H2, W i m acc H2 →
      H2 D = some (.lst acc) ∧ (((Itl K a).stop i H2 ∧ R H2) ∨ (acc.length < sizeLine ∧ (Itl K a).go i H2 ∧ ∀ x H3, (Itl K a).yld i H2 x H3 → g x (nones n ++ slotsC fr σ) H3 fun σ1 H3' => ∃ vs : St, vs.length = n ∧ σ1 = vs ++ slotsC fr σ ∧ tt σ1 H3' fun b H4 =>
        if b = true then te σ1 H4 fun y H5 => H5 D = some (.lst acc) ∧ ∃ m', m' < m ∧ W (i + 1) m' (acc ++ [y]) (upd H5 D (.lst (acc ++ [y]))) else ∃ m', m' < m ∧ W (i + 1) m' acc H4)) := by
  refine ⟨fun i m acc H => m = xs.length - i ∧ i ≤ xs.length ∧ Pv i acc H, ⟨xs.length, by simp, Nat.zero_le _, h0⟩, ?_⟩
  rintro i m acc H2 ⟨rfl, hi, p⟩
  obtain ⟨d1, d2, d3⟩ := hD i acc H2 hi p
  refine ⟨d1, ?_⟩
  by_cases hlt : i < xs.length
  · refine .inr ⟨d2, ⟨xs, xs[i], d3, by simp [hlt]⟩, fun x H3 y => ?_⟩
    obtain ⟨e, y⟩ := y
    subst e
    exact hs i x acc _ (fun acc' H' => ∃ m', m' < xs.length - i ∧ m' = xs.length - (i + 1) ∧ i + 1 ≤ xs.length ∧ Pv (i + 1) acc' H') (y xs d3) (fun acc' H' q => ⟨_, by omega, rfl, hlt, q⟩) p
  · have e : i = xs.length := by omega
    subst e
    exact .inl ⟨⟨xs, d3, Nat.le_refl _⟩, hd acc H2 p⟩
end
end L2
namespace L2
open PySem PySem.Spec PyProof.Rows
noncomputable def tCompN (fr : List (Str × Nat)) (wi : TI) (tt : TT) (te : TE) : TE := tCompG 1 fr wi (gName 0) tt te
set_option genInjectivity false in
set_option genSizeOf false in
structure CompOkN (X : Cx) (scope : Scope) (cl : List (Str × Addr)) (x : Str) (fr : List (Str × Nat)) : Prop where
  ok : CompOkG X scope cl [x] fr
  hx : scope.names.lookup x = some .local
  nd : (x :: fr.map (·.1)).Nodup
section
variable {X : Cx} {scope : Scope} {cl : List (Str × Addr)} {x : Str} {fr : List (Str × Nat)} {elt iter : Expr} {ifs : List Expr} {px pos : Pos} {wi : TI} {tt : TT} {te : TE}
theorem CompOkN.tg (C : CompOkN X scope cl x fr) (fp : List Addr) (s : Shared) (H : Hp) : PG (cxComp X scope cl ([x] ++ fr.map (·.1)) fp s H) (.Name x px) (gName 0) :=
  pg_name C.nd rfl (Or.inl (lookup_relabel_local C.hx)) (.inr (lookup_relabel_local C.hx))
theorem pe_compN (C : CompOkN X scope cl x fr) (hc : X.calm = true) (hi : PI X (.Name x px) iter wi) (ht : ∀ fp s H, PTs (cxComp X scope cl (x :: fr.map (·.1)) fp s H) ifs tt) (he : ∀ fp s H, PE (cxComp X scope cl (x :: fr.map (·.1)) fp s H) elt te)
    (hs : ∀ x, foldedSetIterable iter X.env x = pure x := by intro _; rfl) : PE X (.ListComp elt [⟨.Name x px, iter, ifs, 0⟩] scope pos) (tCompN fr wi tt te) :=
  pe_compG C.ok hc hi C.tg ht he hs
end
theorem compOkN {X : Cx} {scope : Scope} {cl : List (Str × Addr)} {x : Str} {fr : List (Str × Nat)} (clos : closureFor scope X.env = pure cl := by rfl) (kind : scope.kind = .function := by rfl)
    (nocell : (scope.names.all fun y => decide (y.2 ≠ .cell)) = true := by rfl) (names : (scope.names.all fun y => decide (y.2 = .local → scope.names.lookup y.1 = some .local)) = true := by decide +kernel) (hx : scope.names.lookup x = some .local := by rfl)
    (sub : SubL X.env.cells cl := by repeat (first | exact trivial | refine ⟨rfl, ?_⟩))
    (has : ((relabel scope X.env).names.all fun p => (decide (p.2 ≠ .cell) && decide (p.2 ≠ .free)) || (cl.lookup p.1).isSome) = true := by rfl)
    (fre : FreL X.N X.env.scope.names (relabel scope X.env).names fr := by repeat (first | exact trivial | refine ⟨⟨rfl, .inl rfl, .inl rfl⟩, ?_⟩))
    (nd : (x :: fr.map (·.1)).Nodup := by decide +kernel) : CompOkN X scope cl x fr := ⟨compOkG clos kind nocell names sub has fre, hx, nd⟩
noncomputable def WalkN (J : It) (fr : List (Str × Nat)) (σ : St) (tt : TT) (te : TE) (R : Hp → Prop) (D : Addr) (H1 : Hp) : Prop :=
  ∃ W : Nat → Nat → List V → Hp → Prop, (∃ m, W 0 m [] (upd H1 D (.lst []))) ∧ ∀ i m acc H2, W i m acc H2 →
    H2 D = some (.lst acc) ∧ ((J.stop i H2 ∧ R H2) ∨ (acc.length < sizeLine ∧ J.go i H2 ∧ ∀ x H3, J.yld i H2 x H3 → gName 0 x (nones 1 ++ slotsC fr σ) H3 fun σ1 H3' => ∃ vs : St, vs.length = 1 ∧ σ1 = vs ++ slotsC fr σ ∧ tt σ1 H3' fun b H4 =>
      if b = true then te σ1 H4 fun y H5 => H5 D = some (.lst acc) ∧ ∃ m', m' < m ∧ W (i + 1) m' (acc ++ [y]) (upd H5 D (.lst (acc ++ [y]))) else ∃ m', m' < m ∧ W (i + 1) m' acc H4))
section
variable {tt : TT} {te : TE} {fr : List (Str × Nat)} {σ : St} {R : Hp → Prop} {D : Addr} {H1 : Hp}
theorem walkN {J : It} {n : Nat} {Y : Nat → V → Prop} (Pv : Nat → List V → Hp → Prop) (h0 : Pv 0 [] (upd H1 D (.lst []))) (hD : ∀ i acc H2, i ≤ n → Pv i acc H2 → H2 D = some (.lst acc) ∧ acc.length < sizeLine)
    (hst : ∀ acc H2, Pv n acc H2 → J.stop n H2) (hgo : ∀ i acc H2, i < n → Pv i acc H2 → J.go i H2) (hy : ∀ i acc H2 x H3, i < n → Pv i acc H2 → J.yld i H2 x H3 → H3 = H2 ∧ Y i x)
    (hs : ∀ i x acc H2 (N : List V → Hp → Prop), Y i x → (∀ acc' H', Pv (i + 1) acc' H' → N acc' H') → Pv i acc H2 → tt (some x :: slotsC fr σ) H2 fun b H4 =>
      if b = true then te (some x :: slotsC fr σ) H4 fun y H5 => H5 D = some (.lst acc) ∧ N (acc ++ [y]) (upd H5 D (.lst (acc ++ [y]))) else N acc H4)
    (hd : ∀ acc H2, Pv n acc H2 → R H2) : WalkN J fr σ tt te R D H1 := by
  refine ⟨fun i m acc H => m = n - i ∧ i ≤ n ∧ Pv i acc H, ⟨n, rfl, Nat.zero_le _, h0⟩, ?_⟩
  rintro i m acc H2 ⟨rfl, hi, p⟩
  refine ⟨(hD i acc H2 hi p).1, ?_⟩
  rcases Nat.lt_or_eq_of_le hi with hlt | rfl
  · refine .inr ⟨(hD i acc H2 hi p).2, hgo i acc H2 hlt p, fun x H3 y => ?_⟩
    obtain ⟨rfl, hY⟩ := hy i acc H2 x H3 hlt p y
    exact ⟨[some x], rfl, rfl, hs i x acc _ (fun acc' H' => ∃ m', m' < n - i ∧ m' = n - (i + 1) ∧ i + 1 ≤ n ∧ Pv (i + 1) acc' H') hY (fun acc' H' q => ⟨_, Nat.sub_succ_lt_self n i hlt, rfl, hlt, q⟩) p⟩
  · exact .inl ⟨hst acc H2 p, hd acc H2 p⟩
theorem compN_str {z : Str} (Pv : Nat → List V → Hp → Prop) (h0 : Pv 0 [] (upd H1 D (.lst []))) (hD : ∀ i acc H2, i ≤ z.cps.size → Pv i acc H2 → H2 D = some (.lst acc) ∧ acc.length < sizeLine)
    (hs : ∀ i c acc H2 (N : List V → Hp → Prop), z.cps[i]? = some c → (∀ acc' H', Pv (i + 1) acc' H' → N acc' H') → Pv i acc H2 → tt (some (.str ⟨#[c]⟩) :: slotsC fr σ) H2 fun b H4 =>
      if b = true then te (some (.str ⟨#[c]⟩) :: slotsC fr σ) H4 fun y H5 => H5 D = some (.lst acc) ∧ N (acc ++ [y]) (upd H5 D (.lst (acc ++ [y]))) else N acc H4)
    (hd : ∀ acc H2, Pv z.cps.size acc H2 → R H2) : WalkN (Its z) fr σ tt te R D H1 :=
  walkN (Y := fun i x => ∃ c, z.cps[i]? = some c ∧ x = .str ⟨#[c]⟩) Pv h0 hD (fun _ _ _ => Nat.le_refl _) (fun _ _ _ h _ => h) (fun i acc H2 x H3 _ _ y => by obtain ⟨e, c, hc, e'⟩ := y; exact ⟨e, c, hc, e'⟩)
    (fun i x acc H2 N hY hN p => by obtain ⟨c, hc, rfl⟩ := hY; exact hs i c acc H2 N hc hN p) hd
theorem compN_range {lo : Int} {n : Nat} (Pv : Nat → List V → Hp → Prop) (h0 : Pv 0 [] (upd H1 D (.lst []))) (hD : ∀ i acc H2, i ≤ n → Pv i acc H2 → H2 D = some (.lst acc) ∧ acc.length < sizeLine)
    (hs : ∀ (i : Nat) acc H2 (N : List V → Hp → Prop), i < n → (∀ acc' H', Pv (i + 1) acc' H' → N acc' H') → Pv i acc H2 → tt (some (.int (lo + i)) :: slotsC fr σ) H2 fun b H4 =>
      if b = true then te (some (.int (lo + i)) :: slotsC fr σ) H4 fun y H5 => H5 D = some (.lst acc) ∧ N (acc ++ [y]) (upd H5 D (.lst (acc ++ [y]))) else N acc H4)
    (hd : ∀ acc H2, Pv n acc H2 → R H2) : WalkN (Itr lo n) fr σ tt te R D H1 :=
  walkN (Y := fun i x => i < n ∧ x = .int (lo + i)) Pv h0 hD (fun _ _ _ => Nat.le_refl _) (fun _ _ _ h _ => h) (fun i acc H2 x H3 h _ y => by obtain ⟨e, e'⟩ := y; exact ⟨e, h, e'⟩)
    (fun i x acc H2 N hY hN p => by obtain ⟨h, rfl⟩ := hY; exact hs i acc H2 N h hN p) hd
theorem compN_list {K : PySem.W.Frag} {a : Addr} {xs : List V} (Pv : Nat → List V → Hp → Prop) (h0 : Pv 0 [] (upd H1 D (.lst []))) (hD : ∀ i acc H2, i ≤ xs.length → Pv i acc H2 → H2 D = some (.lst acc) ∧ acc.length < sizeLine ∧ SqL K H2 a xs)
    (hs : ∀ i x acc H2 (N : List V → Hp → Prop), xs[i]? = some x → (∀ acc' H', Pv (i + 1) acc' H' → N acc' H') → Pv i acc H2 → tt (some x :: slotsC fr σ) H2 fun b H4 =>
      if b = true then te (some x :: slotsC fr σ) H4 fun y H5 => H5 D = some (.lst acc) ∧ N (acc ++ [y]) (upd H5 D (.lst (acc ++ [y]))) else N acc H4)
    (hd : ∀ acc H2, Pv xs.length acc H2 → R H2) : WalkN (Itl K a) fr σ tt te R D H1 :=
  walkN (Y := fun i x => xs[i]? = some x) Pv h0 (fun i acc H2 h p => ⟨(hD i acc H2 h p).1, (hD i acc H2 h p).2.1⟩) (fun acc H2 p => ⟨xs, (hD _ acc H2 (Nat.le_refl _) p).2.2, Nat.le_refl _⟩)
    (fun i acc H2 h p => ⟨xs, xs[i], (hD i acc H2 (Nat.le_of_lt h) p).2.2, List.getElem?_eq_getElem h⟩) (fun i acc H2 x H3 h p y => by obtain ⟨e, y⟩ := y; exact ⟨e, y xs (hD i acc H2 (Nat.le_of_lt h) p).2.2⟩) hs hd
end
end L2
namespace M24
open PySem L2 PyProof.Rows M26 M12
noncomputable abbrev T3 := Str × Str × Option Int
noncomputable def okS (x : Str) : Prop := PyData.strOk x = true
theorem okS_iff {x : Str} : okS x ↔ ∀ c ∈ x.cps.toList, c < 0x110000 := by
  unfold okS PyData.strOk
  rw [← Array.all_toList, List.all_eq_true]
  exact ⟨fun h c hc => of_decide_eq_true (h c hc), fun h c hc => decide_eq_true (h c hc)⟩
noncomputable def oD : Option Int → PyData
  | none => .none
  | some x => .int x
noncomputable def dT (t : T3) : PyData := .tuple [.str t.1, .str t.2.1, oD t.2.2]
theorem sml_tup {A : List PyData} {k : Nat} (h : ∀ d ∈ A, Sml k d) : Sml (k + 1) (.tuple A) := by
  refine ⟨lay_mem fun d hd => (h d hd).1, ?_⟩
  have := depth_mem fun d hd => (h d hd).2
  simp only [PyData.depth]; omega
theorem sml_str {x : Str} (h : okS x) : Sml 1 (.str x) := ⟨h, by simp [PyData.depth]⟩
theorem sml_bool (x : Bool) : Sml 1 (.bool x) := ⟨rfl, by simp [PyData.depth]⟩
set_option genInjectivity false in
set_option genSizeOf false in
structure Cd where
  pts : Int
  bs : List Bool
  ms : List Str
  rs : Bool
  tb : List Int
noncomputable def cd0 : Cd := ⟨0, [], [], false, []⟩
end M24
namespace M24
open PySem L2 PyProof.Rows M26 M12
end M24
namespace L2
open PySem PySem.Spec PyProof.Rows
theorem pg_tupK {X : Cx} {K : PySem.W.Frag} {es : List Expr} {k : Nat} {t : TGs} {n : Nat} {pos : Pos} (hc : X.calm = true) (h : PGs X es t) (hK : X.K = K := by rfl)
    (hn : (assignEach es X.env).length = n := by rfl) (hst : (assignEach es X.env).findIdx? (·.1) = none := by rfl) : PG X (.Tuple es k pos) (gTup K n t) := hK ▸ pg_tup hc h hn hst
end L2
namespace M24
open PySem L2 PyProof.Rows M26 M12
end M24
namespace L2
open PySem PySem.Spec PyProof.Rows PySem.W
end L2
namespace L2
open PySem PySem.Spec PyProof.Rows
theorem kV_rel {P : Program} {w : World} {k : Key} {u : Value} (h : (mixKind P w).is k u = true) : RelV (kV k) u := by
  rcases keyIs_shape (k := k) (v := u) h with ⟨i, t, rfl, rfl⟩ | ⟨x, t, rfl, rfl⟩
  · exact ⟨t, rfl⟩
  · exact ⟨t, rfl⟩
theorem frz_dict {X : Cx} {pins : List (Addr × Obj)} {σ : St} {H : Hp} {s : Shared} {d : Addr} {ob : Obj} {kvs : List (Key × V)} {es : Array _} {ep : Nat} (he : ob.data = .dict es ep) (I : Inv X pins σ H s) (hd : H d = some (.frz ob (.dK kvs))) :
    ∃ vs, KV kvs vs ∧ s.heap.DictAt (mixKind X.prog X.w) d vs ep := by
  obtain ⟨ho, z, hsys, vs, rel, o', es', ep', ho', r1, r2, r3⟩ := (show ObjOk X.prog X.w H s.heap d (.frz ob (.dK kvs)) from I.hok d _ hd)
  rw [ho] at ho'
  cases ho'
  rw [he] at r2
  cases r2
  exact ⟨vs, rel, ob, es, ho, r1, he, r3⟩
section
variable {X : Cx} {tg : Expr}
theorem Inv.thaw {pins : List (Addr × Obj)} {σ : St} {H : Hp} {s : Shared} {d : Addr} {ob : Obj} {u : HO} (I : Inv X pins σ H s) (hd : H d = some (.frz ob u)) (hf : ∀ o v, X.H₀ d ≠ some (.frz o v)) : Inv X pins σ (upd H d u) s := by
  have ne : ∀ b v, H b = some v → v ≠ .frz ob u → b ≠ d := fun b v e n z => by
    rw [z, hd] at e
    exact n (Option.some.inj e).symm
  have nn : ∀ b, H b = none → b ≠ d := fun b e z => by rw [z, hd] at e; cases e
  refine ⟨I.ok, I.os, I.bare, ⟨I.base.keep, I.base.slot, fun b o e n hx => ?_, I.base.there, fun b xs e => ?_, fun b o v e => ?_, fun b ps e => ?_⟩, I.loc, I.cell, ?_, fun x c e => ?_, fun p hp => ?_, fun b v e => ?_, I.len⟩
  · have h := I.base.free b o e n hx
    rw [upd_ne (nn b h)]; exact h
  · have h := I.base.tups b xs e
    rw [upd_ne (ne b _ h (fun z => nomatch z))]; exact h
  · have h := I.base.frzs b o v e
    have : b ≠ d := fun z => hf o v (by rw [← z]; exact e)
    rw [upd_ne this]; exact h
  · obtain ⟨more, h⟩ := I.base.tbls b ps e
    exact ⟨more, by rw [upd_ne (ne b _ h (fun z => nomatch z))]; exact h⟩
  · rw [upd_ne (nn _ I.free)]; exact I.free
  · rw [upd_ne (nn _ (I.freeC x c e))]; exact I.freeC x c e
  · obtain ⟨a1, a2, a3⟩ := I.pin p hp
    exact ⟨a1, by rw [upd_ne (nn _ a2)]; exact a2, a3⟩
  · have own : ∀ (a b : Addr), H b = some (.own a) → upd H d u b = some (.own a) := fun a b h => by rw [upd_ne (ne b _ h (fun z => nomatch z))]; exact h
    have tup : ∀ (b : Addr) (xs : List V), H b = some (.tup xs) → upd H d u b = some (.tup xs) := fun b xs h => by rw [upd_ne (ne b _ h (fun z => nomatch z))]; exact h
    by_cases hb : b = d
    · subst hb
      rw [upd_same] at e
      cases e
      exact ObjOk.stay (show ObjOk X.prog X.w H s.heap b (.frz ob u) from I.hok b _ hd).2 (fun _ _ _ q => q) (own b) tup
    · rw [upd_ne hb] at e
      exact (I.hok b v e).stay (fun _ _ _ q => q) (own b) tup
end
end L2
namespace R
open PySem L2 PyProof.Rows
set_option genInjectivity false in
set_option genSizeOf false in
structure Dm (K : PySem.W.Frag) (C : Addr) (x q : Str) (st : Stmt) (ps : List Str) where
  f : Addr
  fd : FuncData
  F : Fun K x q st f fd
  b : Binds K fd ps []
  m : Meth K C x f
set_option genInjectivity false in
set_option genSizeOf false in
structure Di (K : PySem.W.Frag) (C : Addr) (q : Str) (st : Stmt) (ps : List Str) where
  f : Addr
  fd : FuncData
  F : Fun K "__init__" q st f fd
  b : Binds K fd ps []
  m : Mk K C f
noncomputable def dm_mk {K : PySem.W.Frag} {C : Addr} {x q : Str} {st : Stmt} {f : Addr} {ps : List Str} {od an : Option Addr} {osl : Array (Option Value)} {oc kV doc pm cdv ct : Value}
    (a : PySem.W.findIn K (.ref C) x = some (some (.ref f))) (i : PySem.W.isFn K (.ref f) = true)
    (l : K.lookup f = some ⟨oc, od, .func (PySem.W.fnOf x q (defArgs st) (defBody st) (defScope st) .none kV doc pm an cdv ct), osl⟩)
    (c : PySem.W.codeIn K cdv q = true) (k : PySem.W.keepIn K (.ref f) = true)
    (h : ∀ (kV doc pm : Value) (an : Option Addr) (cdv ct : Value) (us : List Value), us.length = ps.length → bindArgs (PySem.W.fnOf x q (defArgs st) (defBody st) (defScope st) .none kV doc pm an cdv ct) ⟨us, []⟩ = pure (ps.zip us)) :
    Dm K C x q st ps :=
  ⟨f, _, fun_mk (st := st) l c k, (fun_mk (st := st) l c k).binds h, ⟨a, i, k⟩⟩
noncomputable def di_mk {K : PySem.W.Frag} {C : Addr} {q : Str} {st : Stmt} {f : Addr} {ps : List Str} {od an : Option Addr} {osl : Array (Option Value)} {oc kV doc pm cdv ct : Value}
    (a : PySem.W.findIn K (.ref C) "__init__" = some (some (.ref f))) (i : PySem.W.isFn K (.ref f) = true)
    (l : K.lookup f = some ⟨oc, od, .func (PySem.W.fnOf "__init__" q (defArgs st) (defBody st) (defScope st) .none kV doc pm an cdv ct), osl⟩)
    (c : PySem.W.codeIn K cdv q = true) (k : PySem.W.keepIn K (.ref f) = true) (mk : PySem.W.makesIn K C = true) (kc : PySem.W.keepIn K (.ref C) = true)
    (h : ∀ (kV doc pm : Value) (an : Option Addr) (cdv ct : Value) (us : List Value), us.length = ps.length → bindArgs (PySem.W.fnOf "__init__" q (defArgs st) (defBody st) (defScope st) .none kV doc pm an cdv ct) ⟨us, []⟩ = pure (ps.zip us)) :
    Di K C q st ps :=
  ⟨f, _, fun_mk (st := st) l c k, (fun_mk (st := st) l c k).binds h, ⟨mk, a, i, kc⟩⟩
theorem lk_hit {f : Str} {v : V} {r : List (Str × V)} : List.lookup f ((f, v) :: r) = some v := by rw [List.lookup_cons, beq_self_eq_true]
theorem lk_miss {f g : Str} {v : V} {r : List (Str × V)} (h : (f == g) = false) : List.lookup f ((g, v) :: r) = List.lookup f r := by rw [List.lookup_cons, h]
theorem fld_at {K : PySem.W.Frag} {H : Hp} {p C dx : Addr} {f : Str} {fs : List (Str × V)} {v : V} {R : V → Prop} (h : H p = some (.ins C dx fs)) (c : Cls K C) (n : NoAttr K C f) (l : fs.lookup f = some v) (z : R v) :
    ∃ a C' dx' fs' v', V.ref p = .ref a ∧ H a = some (.ins C' dx' fs') ∧ Cls K C' ∧ NoAttr K C' f ∧ fs'.lookup f = some v' ∧ R v' := ⟨p, C, dx, fs, v, rfl, h, c, n, l, z⟩
end R
namespace L2
open PySem PySem.Spec PyProof.Rows
theorem KV.get {κ : Type} : ∀ {kvs : List (κ × V)} {vs : List (κ × Value)} {i : Nat} {q : κ × Value}, KV kvs vs → vs[i]? = some q → ∃ p, kvs[i]? = some p ∧ RelV p.2 q.2
  | _, _, _, _, .nil, h => by cases h
  | _, _, 0, _, @Paired.cons _ _ _ p _ _ _ r _, h => by
    cases h
    exact ⟨p, rfl, r.2⟩
  | _, _, i + 1, _, .cons _ t, h => KV.get (i := i) t h
end L2
namespace L2
open PySem PySem.Spec PyProof.Rows
open Sem (wp)

theorem dict_mapFields (f : Array Value → Array Value) (o : Obj) : (Obj.mapFields f o).dict = o.dict := by
  obtain ⟨c, d, dt, sl⟩ := o
  cases dt <;> rfl
noncomputable def NoCtx (a : Addr) (dd : Option Addr) (h : Heap) : Prop := ∃ o vs, h.get? a = some o ∧ o.data = .fields vs ∧ vs[2]? = some .none ∧ o.dict = dd
theorem NoCtx.keeps {a : Addr} {dd : Option Addr} {h h' : Heap} (x : NoCtx a dd h) (k : ∀ o, h.get? a = some o → h'.get? a = some o) : NoCtx a dd h' :=
  let ⟨o, vs, e, d⟩ := x; ⟨o, vs, k o e, d⟩
theorem NoCtx.slots {a b : Addr} {dd : Option Addr} {h : Heap} {g : Obj → Obj} (x : NoCtx a dd h) (hg : ∀ o, (g o).data = o.data ∧ (g o).dict = o.dict) : NoCtx a dd (h.update b g) := by
  obtain ⟨o, vs, e, d, c, z⟩ := x
  by_cases hb : b = a
  · subst hb
    exact ⟨g o, vs, Heap.get?_update_self _ e (Obj.isFreed_of_fields ((hg o).1.trans d)), (hg o).1.trans d, c, (hg o).2.trans z⟩
  · exact ⟨o, vs, (Heap.get?_update_other _ _ hb).trans e, d, c, z⟩
theorem NoCtx.field {a b : Addr} {dd : Option Addr} {h : Heap} {i : Nat} {v : Value} (x : NoCtx a dd h) (hi : i ≠ 2) : NoCtx a dd (h.update b (Obj.mapFields (·.setIfInBounds i v))) := by
  obtain ⟨o, vs, e, d, c, z⟩ := x
  by_cases hb : b = a
  · subst hb
    have d' := Obj.data_mapFields d (·.setIfInBounds i v)
    exact ⟨_, _, Heap.get?_update_self _ e (Obj.isFreed_of_fields d'), d', by rw [Array.getElem?_setIfInBounds_ne hi]; exact c, (dict_mapFields _ _).trans z⟩
  · exact ⟨o, vs, (Heap.get?_update_other _ _ hb).trans e, d, c, z⟩

set_option genInjectivity false in
set_option genSizeOf false in
structure KC (a : Addr) {α : Type} (t : Sem α) : Prop where
  out : ∀ (dd : Option Addr) (M : Model) (Γ : PySem.Ctx) (P : α → Pos → Shared → Prop) (Ee : Value → Pos → Shared → Prop) (p : Pos) (s : Shared), NoCtx a dd s.heap → wp M Γ t P Ee p s → wp M Γ t (fun x p' s' => P x p' s' ∧ NoCtx a dd s'.heap) Ee p s
namespace KC
variable {α β : Type} {a : Addr}
theorem pure (x : α) : KC a (Pure.pure x : Sem α) := ⟨fun _ _ _ _ _ _ _ n h => ⟨h, n⟩⟩
theorem unsupported (w : String) : KC a (PySem.unsupported w : Sem α) := ⟨fun _ _ _ _ _ _ _ _ h => h.elim⟩
theorem bind {m : Sem α} {f : α → Sem β} (hm : KC a m) (hf : ∀ x, KC a (f x)) : KC a (m >>= f) := ⟨fun dd M Γ P Ee p s n h => by
  rw [Sem.wp_bind'] at h ⊢
  exact Sem.wp_mono M Γ m (fun x p' s' ⟨h', n'⟩ => (hf x).out dd M Γ P Ee p' s' n' h') (fun _ _ _ x => x) p s (hm.out dd M Γ _ Ee p s n h)⟩
theorem ite {c : Prop} [Decidable c] {t u : Sem α} (ht : KC a t) (hu : KC a u) : KC a (if c then t else u) := by split <;> assumption
theorem load (b : Addr) : KC a (PySem.load b) := ⟨fun _ _ _ _ _ _ _ n h => by
  simp only [PySem.load, Sem.wp_load, Sem.wp_pure, Sem.wp_bind'] at h ⊢
  obtain ⟨o, ho, h⟩ := h
  exact ⟨o, ho, h, n⟩⟩
theorem update (b : Addr) (g : Obj → Obj) (hg : ∀ o, (g o).data = o.data ∧ (g o).dict = o.dict) : KC a (PySem.update b g) := ⟨fun _ _ _ _ _ _ _ n h => ⟨h.1, h.2, n.slots hg⟩⟩
theorem stack : KC a PySem.stack := ⟨fun dd M Γ P Ee p s n h => by
  unfold PySem.stack at h ⊢
  rw [Sem.wp_stack] at h ⊢
  exact ⟨h, n⟩⟩
theorem alloc (o : Obj) : KC a (PySem.alloc o) := ⟨fun _ _ _ _ _ _ _ n h => ⟨h, n.keeps fun _ e => Heap.get?_push_of_some _ e⟩⟩
theorem field (v : Value) (i : Nat) : KC a (PySem.field v i) := ⟨fun _ _ Γ P Ee p s n h => by
  rw [wp_field_iff] at h ⊢
  obtain ⟨b, o, vs, x, e1, e2, e3, e4, h⟩ := h
  exact ⟨b, o, vs, x, e1, e2, e3, e4, h, n⟩⟩
theorem setField (v : Value) (i : Nat) (x : Value) (hi : i ≠ 2) : KC a (PySem.setField v i x) := ⟨fun _ _ Γ P Ee p s n h => by
  rw [wp_setField_iff] at h ⊢
  obtain ⟨b, o, vs, e1, e2, e3, e4, h⟩ := h
  exact ⟨b, o, vs, e1, e2, e3, e4, h, n.field hi⟩⟩
end KC
section
variable {a : Addr}
theorem kc_behindIsImport (env : Env) (outer : List Env) : KC a (behindIsImport env outer) := by
  unfold behindIsImport
  (repeat' with_reducible first | assumption | exact KC.pure _ | exact KC.unsupported _ | exact KC.field _ _ | exact KC.setField _ _ _ (by decide) | exact KC.load _ | exact KC.update _ _ (fun _ => ⟨rfl, rfl⟩) | exact KC.stack | exact KC.alloc _ | apply KC.ite | apply KC.bind | intro _ | split)
theorem kc_under : KC a underTheClaimsCaller := by
  unfold underTheClaimsCaller
  (repeat' with_reducible first | assumption | exact KC.pure _ | exact KC.unsupported _ | exact KC.field _ _ | exact KC.setField _ _ _ (by decide) | exact KC.load _ | exact KC.update _ _ (fun _ => ⟨rfl, rfl⟩) | exact KC.stack | exact KC.alloc _ | apply KC.ite | apply KC.bind | intro _ | split)
theorem kc_keptBack (env : Env) (i : Bool) (l : List Env) : KC a (keptBack env i l) := by
  have := kc_under (a := a)
  cases l <;> unfold keptBack <;> (repeat' with_reducible first | assumption | exact KC.pure _ | exact KC.unsupported _ | exact KC.field _ _ | exact KC.setField _ _ _ (by decide) | exact KC.load _ | exact KC.update _ _ (fun _ => ⟨rfl, rfl⟩) | exact KC.stack | exact KC.alloc _ | apply KC.ite | apply KC.bind | intro _ | split)
theorem kc_readyFrames : ∀ l : List Env, KC a (readyFrames l)
  | [] => KC.pure _
  | env :: outer => by
    have ih := kc_readyFrames outer
    have h1 := kc_behindIsImport (a := a) env outer
    have h2 := fun i => kc_keptBack (a := a) env i outer
    unfold readyFrames
    (repeat' with_reducible first | assumption | exact KC.pure _ | exact KC.unsupported _ | exact KC.field _ _ | exact KC.setField _ _ _ (by decide) | exact KC.load _ | exact KC.update _ _ (fun _ => ⟨rfl, rfl⟩) | exact KC.stack | exact KC.alloc _ | apply KC.ite | apply KC.bind | intro _ | split)
    all_goals first | exact h2 _ | skip
theorem kc_frameObject (l : List Env) : KC a (frameObject l) := by
  cases l with
  | nil => exact KC.pure _
  | cons env outer =>
    have := kc_readyFrames (a := a) (env :: outer)
    unfold frameObject
    (repeat' with_reducible first | assumption | exact KC.pure _ | exact KC.unsupported _ | exact KC.field _ _ | exact KC.setField _ _ _ (by decide) | exact KC.load _ | exact KC.update _ _ (fun _ => ⟨rfl, rfl⟩) | exact KC.stack | exact KC.alloc _ | apply KC.ite | apply KC.bind | intro _ | split)
theorem kc_frameEnvs : KC a frameEnvs := by
  unfold frameEnvs
  (repeat' with_reducible first | assumption | exact KC.pure _ | exact KC.unsupported _ | exact KC.field _ _ | exact KC.setField _ _ _ (by decide) | exact KC.load _ | exact KC.update _ _ (fun _ => ⟨rfl, rfl⟩) | exact KC.stack | exact KC.alloc _ | apply KC.ite | apply KC.bind | intro _ | split)
theorem kc_frameOf (env : Env) : KC a (PySem.frameOf env) := by
  have h1 := kc_frameEnvs (a := a)
  have h2 := kc_frameObject (a := a)
  unfold PySem.frameOf
  (repeat' with_reducible first | assumption | exact KC.pure _ | exact KC.unsupported _ | exact KC.field _ _ | exact KC.setField _ _ _ (by decide) | exact KC.load _ | exact KC.update _ _ (fun _ => ⟨rfl, rfl⟩) | exact KC.stack | exact KC.alloc _ | apply KC.ite | apply KC.bind | intro _ | split)
  all_goals first | exact h2 _ | skip
theorem kc_entryPlaceOf (f : Addr) (b : Bool) : KC a (entryPlaceOf f b) := by
  unfold entryPlaceOf
  (repeat' with_reducible first | assumption | exact KC.pure _ | exact KC.unsupported _ | exact KC.field _ _ | exact KC.setField _ _ _ (by decide) | exact KC.load _ | exact KC.update _ _ (fun _ => ⟨rfl, rfl⟩) | exact KC.stack | exact KC.alloc _ | apply KC.ite | apply KC.bind | intro _ | split)
theorem kc_newEntry (x1 x2 x3 x4 x5 : Value) (pl : List Value) : KC a (EntryCells.newEntry x1 x2 x3 x4 x5 pl) := by
  unfold EntryCells.newEntry newFields newObj newObjAsIs
  (repeat' with_reducible first | assumption | exact KC.pure _ | exact KC.unsupported _ | exact KC.field _ _ | exact KC.setField _ _ _ (by decide) | exact KC.load _ | exact KC.update _ _ (fun _ => ⟨rfl, rfl⟩) | exact KC.stack | exact KC.alloc _ | apply KC.ite | apply KC.bind | intro _ | split)
theorem kc_noteFrame (e : Value) (env : Env) : KC a (noteFrame e env) := by
  have h1 := kc_frameOf (a := a) env
  have h2 := kc_entryPlaceOf (a := a)
  have h3 := kc_newEntry (a := a)
  unfold noteFrame
  (repeat' with_reducible first | assumption | exact KC.pure _ | exact KC.unsupported _ | exact KC.field _ _ | exact KC.setField _ _ _ (by decide) | exact KC.load _ | exact KC.update _ _ (fun _ => ⟨rfl, rfl⟩) | exact KC.stack | exact KC.alloc _ | apply KC.ite | apply KC.bind | intro _ | split)
  all_goals first | exact h2 _ _ | exact h3 _ _ _ _ _ _ | skip
theorem kc_setFlight (e : Value) (f : Option Addr) : KC a (setFlight e f) := by
  unfold setFlight
  (repeat' with_reducible first | assumption | exact KC.pure _ | exact KC.unsupported _ | exact KC.field _ _ | exact KC.setField _ _ _ (by decide) | exact KC.load _ | exact KC.update _ _ (fun _ => ⟨rfl, rfl⟩) | exact KC.stack | exact KC.alloc _ | apply KC.ite | apply KC.bind | intro _ | split)
theorem kc_leaving (env : Env) (e : Value) : KC a (leaving env e) := by
  have h1 := kc_noteFrame (a := a) e env
  have h2 := kc_setFlight (a := a) e none
  unfold leaving
  (repeat' with_reducible first | assumption | exact KC.pure _ | exact KC.unsupported _ | exact KC.field _ _ | exact KC.setField _ _ _ (by decide) | exact KC.load _ | exact KC.update _ _ (fun _ => ⟨rfl, rfl⟩) | exact KC.stack | exact KC.alloc _ | apply KC.ite | apply KC.bind | intro _ | split)
end
theorem KC.any {α : Type} {a : Addr} {t : Sem α} {M : Model} {A : Around} {Q : α → Shared → Prop} {E : Value → Shared → Prop} {s : Shared} {dd : Option Addr} (k : KC a t) (n : NoCtx a dd s.heap) (h : wpAny M A t Q E s) : wpAny M A t (fun x s' => Q x s' ∧ NoCtx a dd s'.heap) E s :=
  fun Γ p hΓ => k.out dd M Γ _ _ p s n (h Γ p hΓ)
end L2
namespace L2
open PySem PySem.Spec PyProof.Rows
open PySem.W (hideAll hideAll_get hideAll_none of_hideAll funFrames_hide)

noncomputable def ExcAt (h : Heap) (a T : Addr) (cls : Value) : Prop :=
  ∃ oe vs oT ts a0, h.get? a = some oe ∧ (oe.cls = cls ∧ vs[0]? = some a0) ∧ oe.data = .fields vs ∧ vs[1]? = some (.ref T) ∧ T ≠ a ∧ h.get? T = some oT ∧ oT.data = .fields ts ∧ ts[3]? = some .none

set_option genInjectivity false in
set_option genSizeOf false in
structure Alien (X : Cx) (pins : List (Addr × Obj)) (H : Hp) (b : Addr) : Prop where
  s0 : X.s₀.heap.get? b = none
  h : H b = none
  pin : ∀ p ∈ X.pn ++ pins, p.1 ≠ b

section
variable {X : Cx} {pins : List (Addr × Obj)} {σ : St} {H : Hp} {s : Shared} {a T : Addr} {cls : Value}

theorem Alien.of_none (I : Inv X pins σ H s) (hex : X.ex = []) {b : Addr} (e : s.heap.get? b = none) : Alien X pins H b := by
  refine ⟨?_, ?_, fun p hp z => ?_⟩
  · cases q : X.s₀.heap.get? b with
    | none => rfl
    | some o =>
      obtain ⟨o', r⟩ := I.base.there b o q (by rw [hex]; simp)
      rw [e] at r; cases r
  · cases q : H b with
    | none => rfl
    | some o =>
      obtain ⟨o', r⟩ := ObjOk.ex (I.hok b o q)
      rw [e] at r; cases r
  · have r := (I.pin p hp).1
    rw [z, e] at r; cases r

theorem Inv.exc (I : Inv X pins σ H s) (hex : X.ex = []) {h' : Heap} {t' : Nat} (k : ∀ b o, b ∉ frs X.stack → b ≠ a → b ≠ T → s.heap.get? b = some o → h'.get? b = some o)
    (sl : s.heap.UpToSlots h') (na : Alien X pins H a) (nT : Alien X pins H T) (fa : ∀ o, s.heap.get? a = some o → ∃ vs, o.data = .fields vs) (fT : ∀ o, s.heap.get? T = some o → ∃ vs, o.data = .fields vs) :
    Inv X pins σ H { s with heap := h', toks := t' } := by
  have nof : ∀ b o, s.heap.get? b = some o → (∀ vs, o.data ≠ .fields vs) → b ≠ a ∧ b ≠ T := fun b o e n =>
    ⟨fun z => (by rw [z] at e; obtain ⟨vs, q⟩ := fa o e; exact n vs q), fun z => (by rw [z] at e; obtain ⟨vs, q⟩ := fT o e; exact n vs q)⟩
  have hs := I.stack
  have sub := I.stkSub
  have any : ∀ b o, b ≠ a → b ≠ T → s.heap.get? b = some o → ∃ l, h'.get? b = some { o with slots := l } := fun b o h1 h2 e => by
    by_cases hb : b ∈ frs X.stack
    · obtain ⟨_, o', e', n⟩ := hs.mem hb
      rw [e] at e'; cases e'
      exact sl b o e n
    · exact ⟨o.slots, k b o hb h1 h2 e⟩
  have low : ∀ b o, X.s₀.heap.get? b = some o → b ≠ X.env.locals := fun b o e z => by
    have q := Heap.lt_size e
    rw [z] at q
    exact absurd (Nat.lt_of_lt_of_le q I.ok.above) (Nat.lt_irrefl _)
  have ne0 : ∀ b o, X.s₀.heap.get? b = some o → b ≠ a ∧ b ≠ T := fun b o e => ⟨fun z => (by rw [z, na.s0] at e; cases e), fun z => (by rw [z, nT.s0] at e; cases e)⟩
  obtain ⟨m, hn, hl⟩ := I.loc
  refine ⟨I.ok, I.os, I.bare, ⟨fun b o e n hb hx => ?_, fun b o e n hb hx => ?_, I.base.free, fun b o e hx => ?_, I.base.tups, I.base.frzs, I.base.tbls⟩, ⟨m, sl.ns hn, fun i x v h1 h2 h3 => ?_⟩, fun x c e => ?_, I.free, I.freeC, fun p hp => ?_, fun b o e => ?_, I.len⟩
  · refine k b o (fun z => ?_) (ne0 b o e).1 (ne0 b o e).2 (I.base.keep b o e n hb hx)
    exact (List.mem_cons.mp (sub b z)).elim (low b o e) hb
  · obtain ⟨l, q⟩ := I.base.slot b o e n hb hx
    exact any b { o with slots := l } (ne0 b o e).1 (ne0 b o e).2 q
  · obtain ⟨o', q⟩ := I.base.there b o e hx
    obtain ⟨l, r⟩ := any b o' (ne0 b o e).1 (ne0 b o e).2 q
    exact ⟨_, r⟩
  · obtain ⟨u, ru, lk⟩ := hl i x v h1 h2 h3
    refine ⟨u, ru, lk.imp id fun ⟨kd, c, e, ⟨o, e1, e2⟩⟩ => ⟨kd, c, e, ?_⟩⟩
    obtain ⟨l, q⟩ := sl c o e1 (fun vs z => by rw [e2] at z; cases z)
    exact ⟨_, q, e2⟩
  · obtain ⟨v, o, e1, e2⟩ := I.cell x c e
    obtain ⟨l, q⟩ := sl c o e1 (fun vs z => by rw [e2] at z; cases z)
    exact ⟨v, _, q, e2⟩
  · obtain ⟨p1, p2, p3, p4, p5⟩ := I.pin p hp
    refine ⟨k p.1 p.2 (fun z => ?_) (na.pin p hp) (nT.pin p hp) p1, p2, p3, p4, p5⟩
    exact (List.mem_cons.mp (sub p.1 z)).elim p3 p4
  · refine (I.hok b o e).stay (fun c u hc q => ?_) (fun _ q => q) fun _ _ q => q
    have hc' : ∃ o', H c = some o' := by
      rcases hc with rfl | hc
      · exact ⟨_, e⟩
      · exact ⟨_, hc⟩
    obtain ⟨o', eo⟩ := hc'
    refine k c u (fun z => ?_) (fun z => ?_) (fun z => ?_) q
    · rw [I.stkFree c z] at eo; cases eo
    · subst z; rw [na.h] at eo; cases eo
    · subst z; rw [nT.h] at eo; cases eo
end
end L2
namespace L2
open PySem PySem.Spec PyProof.Rows
open PySem.W (hideAll hideAll_get hideAll_none of_hideAll funFrames_hide)

noncomputable def CXE (P : Program) (w : World) : CXT := fun outer H s E e s' => ∃ a T cls dd H', e = .ref a ∧ s'.os = s.os ∧ AllBare s'.gens ∧ Un (frs outer) [] H H' s.heap s'.heap ∧ HOk P w H' s'.heap ∧
  (s.heap.get? a = none ∧ s.heap.get? T = none) ∧ (H' a = none ∧ H' T = none) ∧ (ExcAt s'.heap a T cls ∧ NoCtx a dd s'.heap) ∧ E cls dd H'

section
variable {X : Cx} {pins : List (Addr × Obj)} {σ : St} {H : Hp} {s : Shared} {a T : Addr} {cls : Value}

theorem ExcAt.fa {h : Heap} (x : ExcAt h a T cls) : ∀ o, h.get? a = some o → ∃ vs, o.data = .fields vs := fun o e => by
  obtain ⟨oe, vs, oT, ts, a0, h1, _, h3, _⟩ := x
  rw [e] at h1; cases h1; exact ⟨vs, h3⟩
theorem ExcAt.fT {h : Heap} (x : ExcAt h a T cls) : ∀ o, h.get? T = some o → ∃ vs, o.data = .fields vs := fun o e => by
  obtain ⟨oe, vs, oT, ts, a0, _, _, _, _, _, h1, h3, _⟩ := x
  rw [e] at h1; cases h1; exact ⟨ts, h3⟩
theorem ExcAt.flying {h base : Heap} {l : List Env} (x : ExcAt h a T cls) (hl : h.FunFrames base l) : ∃ a0, Heap.FlyingW (hideAll h (a :: T :: frs l)) l a cls a0 h := by
  obtain ⟨oe, vs, oT, ts, a0, h1, h2, h3, h4, h5, h6, h7, h8⟩ := x
  refine ⟨a0, fun b o q => of_hideAll _ q, hideAll_none _ (.head _), funFrames_hide hl fun env he b hb => .tail _ (.tail _ (List.mem_filterMap.mpr ⟨env, he, hb⟩)), oe, vs, T, oT, ts, h1, h2, h3, h4, hideAll_none _ (.tail _ (.head _)), h5, h6, h7, h8⟩
theorem flying_at {h h' : Heap} {as : List Addr} {l : List Env} {a0 : Value} (x : Heap.FlyingW (hideAll h as) l a cls a0 h') : ∃ T', ExcAt h' a T' cls ∧ (h.get? T' = none ∨ T' ∈ as) := by
  obtain ⟨_, _, _, oe, vs, T', oT, ts, h1, h2, h3, h4, hn, h5, h6, h7, h8⟩ := x
  refine ⟨T', ⟨oe, vs, oT, ts, a0, h1, h2, h3, h4, h5, h6, h7, h8⟩, ?_⟩
  by_cases hm : T' ∈ as
  · exact .inr hm
  · refine .inl ?_
    cases q : h.get? T' with
    | none => rfl
    | some o => rw [hideAll_get _ q hm] at hn; cases hn
theorem ExcAt.nofr {h base : Heap} {l : List Env} (x : ExcAt h a T cls) (hl : h.FunFrames base l) : T ∉ frs l ∧ a ∉ frs l := by
  refine ⟨fun z => ?_, fun z => ?_⟩
  · obtain ⟨_, o, e, n⟩ := hl.mem z
    obtain ⟨vs, q⟩ := x.fT o e
    exact n vs q
  · obtain ⟨_, o, e, n⟩ := hl.mem z
    obtain ⟨vs, q⟩ := x.fa o e
    exact n vs q

set_option genInjectivity false in
set_option genSizeOf false in
structure XAt (X : Cx) (pins : List (Addr × Obj)) (H : Hp) (h : Heap) (a T : Addr) (cls : Value) (dd : Option Addr) : Prop where
  at_ : ExcAt h a T cls
  na : Alien X pins H a
  nT : Alien X pins H T
  ctx : NoCtx a dd h

theorem XAt.step {h' : Heap} {t' : Nat} {a0 : Value} {dd : Option Addr} (I : Inv X pins σ H s) (hex : X.ex = []) (x : XAt X pins H s.heap a T cls dd)
    {l : List Env} (hfl : Heap.FlyingW (hideAll s.heap (a :: T :: frs X.stack)) l a cls a0 h') (sl : s.heap.UpToSlots h') (hc : NoCtx a dd h') :
    Inv X pins σ H { s with heap := h', toks := t' } ∧ ∃ T', XAt X pins H h' a T' cls dd := by
  have st := hfl.1
  have J : Inv X pins σ H { s with heap := h', toks := t' } := I.exc hex (fun b o h1 h2 h3 e => st b o (hideAll_get _ e fun hm => by
    rcases List.mem_cons.mp hm with z | hm
    · exact h2 z
    · rcases List.mem_cons.mp hm with z | hm
      · exact h3 z
      · exact h1 hm)) sl x.na x.nT x.at_.fa x.at_.fT
  refine ⟨J, ?_⟩
  obtain ⟨T', y, hT⟩ := flying_at hfl
  refine ⟨T', y, x.na, ?_, hc⟩
  rcases hT with hT | hT
  · exact Alien.of_none I hex hT
  · have hs : h'.FunFrames X.base X.stack := J.stack
    rcases List.mem_cons.mp hT with z | hT
    · obtain ⟨_, _, _, _, _, _, _, _, _, n, _⟩ := y
      exact (n z).elim
    · rcases List.mem_cons.mp hT with z | hT
      · rw [z]; exact x.nT
      · exact ((y.nofr hs).1 hT).elim

theorem Inv.raised {E : XK} {e : Value} {s' : Shared} (I : Inv X pins σ H s) (hex : X.ex = []) (h : CXE X.prog X.w X.stack H s E e s') :
    ∃ a T cls dd H', e = .ref a ∧ Inv X pins σ H' s' ∧ XAt X pins H' s'.heap a T cls dd ∧ E cls dd H' := by
  obtain ⟨a, T, cls, dd, H', rfl, os, bare, un, hok, ⟨f1, f2⟩, ⟨n1, n2⟩, ⟨x, c⟩, q⟩ := h
  have J : Inv X pins σ H' s' := I.call' (ch := []) os un hok bare fun b z => absurd z (by simp)
  have al : ∀ {b : Addr}, s.heap.get? b = none → H' b = none → Alien X pins H' b := fun {b} f n => by
    have y := Alien.of_none I hex f
    exact ⟨y.s0, n, y.pin⟩
  exact ⟨a, T, cls, dd, H', rfl, J, ⟨x, al f1 n1, al f2 n2, c⟩, q⟩
end

section
variable {P : Program} {w : World} {K : PySem.W.Frag} {mg : Str → Option Value} {base : Heap} {N : List Str} {qual : Str} {scope : Scope} {f : Addr} {cd : Value} {A : Around} {outer : List Env} {s : Shared} {H : Hp} {E : XK}
theorem xe_on {pins : List (Addr × Obj)} {σ : St} {H1 : Hp} {s1 : Shared} {a T : Addr} {cls : Value} {dd : Option Addr} (I : Inv (cxOf (CXE P w) P w K mg base N qual scope f cd A outer s H E) pins σ H1 s1)
    (x : XAt (cxOf (CXE P w) P w K mg base N qual scope f cd A outer s H E) pins H1 s1.heap a T cls dd) (q : E cls dd H1) : (cxOf (CXE P w) P w K mg base N qual scope f cd A outer s H E).xe (.ref a) s1 := by
  obtain ⟨a0, hfl⟩ := x.at_.flying I.stack
  have hfr := I.ok.frames
  have W := wpAny_leaves_onW (M := model P w) (E := fun e' s'' => CXE P w outer H s E e' s'') (Q := fun _ s2 => ∃ h', s2 = { s1 with heap := h' } ∧ Heap.FlyingW (hideAll s1.heap (a :: T :: frs (cxOf (CXE P w) P w K mg base N qual scope f cd A outer s H E).stack)) outer a cls a0 h' ∧ s1.heap.UpToSlots h') hfr rfl hfl fun h' x1 x2 => ⟨h', rfl, x1, x2⟩
  refine thn (KC.any (kc_leaving _ _) x.ctx W) ?_
  rintro _ s2 ⟨⟨h', rfl, hf', sl⟩, hc⟩
  obtain ⟨J, T', y⟩ := XAt.step (t' := s1.toks) I rfl x hf' sl hc
  exact ⟨a, T', cls, dd, H1, rfl, J.os, J.bare, J.base, J.hok, ⟨y.na.s0, y.nT.s0⟩, ⟨y.na.h, y.nT.h⟩, ⟨y.at_, hc⟩, q⟩
theorem passes_on {E' : XK} (h : ∀ cls dd H', E' cls dd H' → E cls dd H') : Passes (CXE P w) (cxOf (CXE P w) P w K mg base N qual scope f cd A outer s H E) E' := fun pins σ H1 s1 e s' I hx => by
  obtain ⟨a, T, cls, dd, H', rfl, J, x, q⟩ := I.raised rfl hx
  exact xe_on J x (h _ _ _ q)
theorem xe_made {pins : List (Addr × Obj)} {σ : St} {H1 : Hp} {s1 : Shared} {a : Addr} {cls : Value} {args : List Value} {h1 : Heap} (I : Inv (cxOf (CXE P w) P w K mg base N qual scope f cd A outer s H E) pins σ H1 s1)
    (hx : Heap.MadeExcOf s1.heap h1 a cls args) (q : E cls none H1) : (cxOf (CXE P w) P w K mg base N qual scope f cd A outer s H E).xe (.ref a) { s1 with heap := h1 } := by
  have I1 : Inv (cxOf (CXE P w) P w K mg base N qual scope f cd A outer s H E) pins σ H1 { s1 with heap := h1 } := I.kept (t' := s1.toks) hx.keeps
  have hin : ∀ env ∈ (cxOf (CXE P w) P w K mg base N qual scope f cd A outer s H E).stack, ∀ b, env.frame = some b → b ∈ frs (cxOf (CXE P w) P w K mg base N qual scope f cd A outer s H E).stack := fun env he b hb => List.mem_filterMap.mpr ⟨env, he, hb⟩
  have na := Alien.of_none I rfl hx.new
  have c1 : NoCtx a none h1 := by
    obtain ⟨t', he, _⟩ := hx.there
    exact ⟨_, _, he, rfl, rfl, rfl⟩
  have W := wpAny_leaves_madeW (M := model P w) (A := (cxOf (CXE P w) P w K mg base N qual scope f cd A outer s H E).A) (s := { s1 with heap := h1 }) (E := fun e' s'' => CXE P w outer H s E e' s'') (base := hideAll s1.heap (frs (cxOf (CXE P w) P w K mg base N qual scope f cd A outer s H E).stack)) (h := s1.heap)
    (Q := fun _ s2 => ∃ h' t, s2 = { s1 with heap := h' } ∧ Heap.FlyingW (hideAll s1.heap (frs (cxOf (CXE P w) P w K mg base N qual scope f cd A outer s H E).stack)) outer a cls (.ref t) h' ∧ h1.UpToSlots h') I.ok.frames rfl (fun b o z => of_hideAll _ z) (funFrames_hide I.stack hin) hx fun h' t x1 _ _ x4 => ⟨h', t, rfl, x1, x4⟩
  refine thn (KC.any (kc_leaving _ _) c1 W) ?_
  rintro _ s2 ⟨⟨h', t, rfl, hf', sl⟩, hc⟩
  obtain ⟨t', he, htn, ht⟩ := hx.there
  obtain ⟨T', y, hT⟩ := flying_at hf'
  have J : Inv (cxOf (CXE P w) P w K mg base N qual scope f cd A outer s H E) pins σ H1 { s1 with heap := h' } :=
    I.exc (a := a) (T := a) (t' := s1.toks) rfl (fun b o h1 _ _ e => hf'.1 b o (hideAll_get _ e h1)) ((Heap.UpToSlots.of_keeps hx.keeps).trans sl) na na (fun o z => by rw [hx.new] at z; cases z) fun o z => by rw [hx.new] at z; cases z
  have nT : Alien (cxOf (CXE P w) P w K mg base N qual scope f cd A outer s H E) pins H1 T' := by
    rcases hT with hT | hT
    · exact Alien.of_none I rfl hT
    · exact ((y.nofr (show h'.FunFrames _ _ from J.stack)).1 hT).elim
  exact ⟨a, T', cls, none, H1, rfl, J.os, J.bare, J.base, J.hok, ⟨na.s0, nT.s0⟩, ⟨na.h, nT.h⟩, ⟨y, hc⟩, q⟩
end
end L2
namespace L2
open PySem PySem.Spec PyProof.Rows

noncomputable def bmVE : List Value := [.type "ValueError", .type "Exception", .type "BaseException", .type "object"]
noncomputable def XCl (h : Heap) (C : Addr) (up : List Value) : Prop :=
  ∃ N nm qn bs hd sn sub ab col dd k0 k1 k2 k3 k5 mN, h.get? C = some (excClassObj nm qn C N bs up hd sn sub ab col dd k0 k1 k2 k3 k5 "ValueError.__new__") ∧ h.Ns N mN ∧ mN "__init__" = none ∧ OwnTail h bmVE up
theorem XCl.of_in {K : PySem.W.Frag} {h : Heap} {C : Addr} (X : K.In h) (q : PySem.W.excIn K C bmVE "ValueError.__new__" = true) : ∃ up, XCl h C up ∧ ∃ cd, PySem.W.clsIn K C = some cd ∧ cd.mro = .ref C :: up := by
  unfold PySem.W.excIn at q
  split at q
  · rename_i dd cd sl ho
    split at q
    · rename_i C' up k0 k1 k2 k3 n k5 hm hs
      simp only [Bool.and_eq_true, beq_iff_eq, Bool.not_eq_true'] at q
      obtain ⟨⟨⟨⟨⟨rfl, rfl⟩, hdel⟩, ht⟩, hok⟩, hni⟩ := q
      have ec : PySem.W.clsIn K C' = some cd := by
        unfold PySem.W.clsIn
        rw [ho]
      refine ⟨up, ?_, cd, ec, hm⟩
      obtain ⟨nm, bs, mro, ns, qn, hd, sn, sub, ab, col, del⟩ := cd
      dsimp only at hm hdel hok hni
      subst hm hdel
      have hsl : sl = #[k0, k1, k2, k3, some (.builtin "ValueError.__new__"), k5] := by
        obtain ⟨l⟩ := sl
        simp only at hs
        rw [hs]
      subst hsl
      exact ⟨ns, nm, qn, bs, hd, sn, sub, ab, col, dd, k0, k1, k2, k3, k5, _, X _ _ ho, .of_isNs (PySem.W.isNs_of_in X hok), PySem.W.nsMap_none_of_in X hok hni, PySem.W.tail_of_in X ht⟩
    · cases q
  · cases q

noncomputable def tRaise (C : Addr) (E : St → XK) (t : TA) : TS := fun _ σ H => t σ H fun vs H1 => vs.length ≤ sizeLine ∧ E σ (.ref C) none H1
theorem ps_raise {X : Cx} {x : Str} {C : Addr} {E : St → XK} {e : Expr} {es : List Expr} {t : TA} {np cpos pos : Pos} (hc : X.calm = true) (c : PySem.W.excIn X.K C bmVE "ValueError.__new__" = true) (hg : Gl X x) (hm : X.mg x = some (.ref C)) (ha : PA X (e :: es) t)
    (hx : ∀ (pins : List (Addr × Obj)) (σ : St) (H : Hp) (s : Shared) (a : Addr) (args : List Value) (h1 : Heap), Inv X pins σ H s → Heap.MadeExcOf s.heap h1 a (.ref C) args → E σ (.ref C) none H → X.xe (.ref a) { s with heap := h1 })
    (hdb : (x == ("__debug__" : Str)) = false := by decide) (he : starEach (e :: es) X.env = (false, eval e X.env) :: starEach es X.env := by rfl) (hpl : (backTo cpos (starEach (e :: es) X.env)).any (·.1) = false := by rfl) :
    PS X (.Raise (some (.Call (.Name x np) (e :: es) [] cpos)) none pos) (tRaise C E t) := by
  intro pins s σ H D I h
  obtain ⟨up, ⟨N, nm, qn, bs, hd, sn, sub, ab, col, dd, k0, k1, k2, k3, k5, mN, h1, h2, h3, h4⟩, _⟩ := XCl.of_in I.ok.mod.kin c
  refine wpAny_Raise_call_subU (C := C) (N := N) (nm := nm) (q := qn) (bs := bs) (bm := up) (hdct := hd) (sn := sn) (sub := sub) (ab := ab) (col := col) (dd := dd) (k0 := k0) (k1 := k1) (k2 := k2) (k3 := k3) (k5 := k5) PySem.F.excBase_ValueError (bmB := bmVE) rfl PySem.F.excBase_ValueError (h4.hasType rfl) (I.ok.hd hc) hpl h3 (ld_glob I hg hm ⟨rfl, ?_⟩ hdb)
  have z := ha cpos pins s σ H _ I h
  rw [he] at z ⊢
  refine Calls.evalArgs_plain (thn z fun us s1 ⟨vs, H1, I1, r, l, q⟩ => ⟨rfl, ?_, I1.bk _ _ h1, h2.keeps I1.bk, h4.keeps I1.bk, fun h' a m => hx pins σ H1 s1 a us h' I1 m q⟩)
  show us.length ≤ sizeLine
  rw [← r.length]; exact l
section
variable {P : Program} {w : World} {K : PySem.W.Frag} {mg : Str → Option Value} {base : Heap} {N : List Str} {qual : Str} {scope : Scope} {f : Addr} {cd : Value} {A : Around} {outer : List Env} {s : Shared} {H : Hp} {E : XK}
theorem raises_out {C : Addr} : ∀ (pins : List (Addr × Obj)) (σ : St) (H1 : Hp) (s1 : Shared) (a : Addr) (args : List Value) (h1 : Heap), Inv (cxOf (CXE P w) P w K mg base N qual scope f cd A outer s H E) pins σ H1 s1 → Heap.MadeExcOf s1.heap h1 a (.ref C) args →
    (fun (_ : St) => E) σ (.ref C) none H1 → (cxOf (CXE P w) P w K mg base N qual scope f cd A outer s H E).xe (.ref a) { s1 with heap := h1 } := fun _ _ _ _ _ _ _ I m q => xe_made I m q
end

theorem excMatches_own {M : Model} {A : Around} {E : Value → Shared → Prop} {h : Heap} {g : Array GenState} {d : Drawn} {t : Nat} {os : OsState} {a C D : Addr} {oe : Obj} {up up' : List Value} {Q : Bool → Shared → Prop}
    (hC : XCl h C up) (hD : XCl h D up') (he : h.get? a = some oe) (hcls : oe.cls = .ref C) (hq : Q ((Value.ref C :: up).contains (.ref D)) ⟨h, g, d, t, os⟩) : wpAny M A (excMatches (.ref a) (.ref D)) Q E ⟨h, g, d, t, os⟩ := by
  obtain ⟨_, _, _, _, _, _, _, _, _, _, _, _, _, _, _, _, c1, _, _, c4⟩ := hC
  obtain ⟨_, _, _, _, _, _, _, _, _, _, _, _, _, _, _, _, d1, _, _, d4⟩ := hD
  have hcB : (Value.ref D :: up').contains (.type "BaseException") = true := by rw [List.contains_cons, d4.hasType (X := "BaseException") (b := true) rfl, Bool.or_true]
  have f := tc_notTuple
  unfold excMatches
  repeat (first | (with_reducible refine wpAny_loadPart_at he ?_; rw [hcls]) | with_reducible refine wpAny_loadPart_at d1 ?_ | (with_reducible refine wpAny_isSubtype_exc d1 ?_; rw [hcB]) | (with_reducible refine wpAny_isSubtype_exc c1 ?_) | wp_step)
  cases hb : (Value.ref C :: up).contains (.ref D) <;> (rw [hb] at hq; wp_walk; exact hq)
end L2
namespace L2
open PySem PySem.Spec PyProof.Rows
open PySem.W (hideAll hideAll_get hideAll_none of_hideAll funFrames_hide)

section
variable {X : Cx} {pins : List (Addr × Obj)} {σ : St} {H : Hp} {s : Shared} {a T : Addr} {cls : Value}

theorem unbind_ok {M : Model} {A : Around} {E : Value → Shared → Prop} {i : Nat} {x : Str} {pos : Pos} {Q : Unit → Shared → Prop} (I : Inv X pins σ H s) (hN : X.N.Nodup) (hi : X.N[i]? = some x) (hk : X.env.scope.names.lookup x = some .local)
    (h : ∀ s', Inv X pins (σ.set i none) H s' → Q () s') : wpAny M A (do bindName X.env x .none; unbindBehindTheSuite X.env x pos) Q E s := by
  have hcls : (X.env.scope.kind == .class || (X.env.scope.kind == .module && X.env.locals != X.env.globals)) = false := by rw [I.ok.kind]; rfl
  have hiσ : i < σ.length := by rw [I.len]; exact (List.getElem?_eq_some_iff.mp hi).1
  refine wpAny_bind (wpAny_bindName (store_ok I hN hi (.inl hk) (v := .non) rfl (fun s1 I1 => ?_) (.inr hk)))
  obtain ⟨m, hn, hl⟩ := id I1.loc
  obtain ⟨u0, r0, lk⟩ := hl i x .non hi (List.getElem?_set_self hiσ) (.inl hk)
  have hv : m x = some u0 := by
    rcases lk with ⟨_, e⟩ | ⟨k, _⟩
    · exact e
    · have k' : X.env.scope.names.lookup x = some .cell ∨ X.env.scope.names.lookup x = some .free := k
      rw [hk] at k'
      rcases k' with k' | k' <;> cases k'
  unfold unbindBehindTheSuite
  refine wpAny_onRaise (wpAny_unbindName_local hk hn hv hcls fun h' u hn' hs => h _ ?_)
  have cne := I1.cne
  obtain ⟨oL, _, _, hoL, _⟩ := id hn
  refine ⟨I1.ok, I1.os, I1.bare, ⟨fun b o e n hb hx => ?_, fun b o e n hb hx => ?_, I1.base.free, fun b o e hx => ?_, I1.base.tups, I1.base.frzs, I1.base.tbls⟩, ⟨_, hn', fun j y v' e1 e2 e3 => ?_⟩, fun y c e => ?_, I1.free, I1.freeC, fun p hp => ?_, fun b ob e => ?_, by simpa using I.len⟩
  · exact (hs.2 b (Nat.ne_of_lt (Nat.lt_of_lt_of_le (Heap.lt_size e) I1.ok.above))).trans (I1.base.keep b o e n hb hx)
  · obtain ⟨sl, e1⟩ := I1.base.slot b o e n hb hx
    exact ⟨sl, (hs.2 b (Nat.ne_of_lt (Nat.lt_of_lt_of_le (Heap.lt_size e) I1.ok.above))).trans e1⟩
  · obtain ⟨o', e1⟩ := I1.base.there b o e hx
    exact ⟨o', (hs.2 b (Nat.ne_of_lt (Nat.lt_of_lt_of_le (Heap.lt_size e) I1.ok.above))).trans e1⟩
  · by_cases hj : j = i
    · subst hj
      rw [List.getElem?_set_self hiσ] at e2
      cases e2
    · rw [List.getElem?_set_ne (Ne.symm hj)] at e2
      obtain ⟨u', r', q⟩ := hl j y v' e1 (by rw [List.getElem?_set_ne (Ne.symm hj)]; exact e2) e3
      refine ⟨u', r', ?_⟩
      rcases q with ⟨k, e⟩ | ⟨k, c, e, z⟩
      · refine .inl ⟨k, ?_⟩
        have : y ≠ x := fun e => hj (nodup_ix hN e1 (e ▸ hi))
        simp [this, e]
      · exact .inr ⟨k, c, e, z.sameBut hs (cne y c e)⟩
  · obtain ⟨w', z⟩ := I1.cell y c e
    exact ⟨w', z.sameBut hs (cne y c e)⟩
  · obtain ⟨e, n, ne, nf, d⟩ := I1.pin p hp
    exact ⟨(hs.2 p.1 ne).trans e, n, ne, nf, d⟩
  · refine (I1.hok b ob e).stay (fun c w' hc q => (hs.2 c ?_).trans q) (fun _ q => q) fun _ _ q => q
    have fr := I1.free
    intro z
    rw [← z] at fr
    rcases hc with rfl | hc
    · rw [fr] at e; cases e
    · rw [fr] at hc; cases hc

noncomputable abbrev Cx.held (X : Cx) (a : Addr) : Cx := { X with A := X.A.mark (some (.ref a)), calm := false, xe := fun _ _ => False }
theorem Cx.Ok.held (ok : X.Ok) (a : Addr) : (X.held a).Ok :=
  ⟨ok.mod, ok.kind, ok.glob, ok.blt, ok.above, ok.inj, ok.has, ok.cab, fun z => (by cases z), ok.frames, ok.stk, ok.exf, ok.bs, ok.bsz, ok.noex, ok.exfs, ok.funs, ok.frf⟩
theorem Inv.held (I : Inv X pins σ H s) (a : Addr) : Inv (X.held a) pins σ H s := ⟨I.ok.held a, I.os, I.bare, I.base, I.loc, I.cell, I.free, I.freeC, I.pin, I.hok, I.len⟩
theorem Inv.unheld (ok : X.Ok) (I : Inv (X.held a) pins σ H s) : Inv X pins σ H s := ⟨ok, I.os, I.bare, I.base, I.loc, I.cell, I.free, I.freeC, I.pin, I.hok, I.len⟩
noncomputable abbrev Cx.in_ (X : Cx) (pn : List (Addr × Obj)) (xe : Value → Shared → Prop) : Cx := { X with pn := pn, xe := xe }
theorem Inv.in_ (I : Inv X pins σ H s) (xe : Value → Shared → Prop) : Inv (X.in_ (X.pn ++ pins) xe) [] σ H s :=
  ⟨⟨I.ok.mod, I.ok.kind, I.ok.glob, I.ok.blt, I.ok.above, I.ok.inj, I.ok.has, I.ok.cab, I.ok.hd, I.ok.frames, I.ok.stk, I.ok.exf, I.ok.bs, I.ok.bsz, I.ok.noex, I.ok.exfs, I.ok.funs, I.ok.frf⟩, I.os, I.bare, I.base, I.loc, I.cell, I.free, I.freeC, fun p hp => I.pin p (by rwa [List.append_nil] at hp), I.hok, I.len⟩
theorem Inv.out_ {xe : Value → Shared → Prop} {pl : List (Addr × Obj)} (ok : X.Ok) (I : Inv (X.in_ (X.pn ++ pins) xe) pl σ H s) : Inv X pins σ H s :=
  ⟨ok, I.os, I.bare, I.base, I.loc, I.cell, I.free, I.freeC, fun p hp => I.pin p (List.mem_append_left _ hp), I.hok, I.len⟩
theorem SP.out_ {xe : Value → Shared → Prop} {D : Ends} {f : Flow} {s' : Shared} (ok : X.Ok) (h : SP (X.in_ (X.pn ++ pins) xe) [] D f s') : SP X pins D f s' := by
  cases f with
  | next => obtain ⟨σ', H', I, q⟩ := h; exact ⟨σ', H', I.out_ ok, q⟩
  | brk => obtain ⟨σ', H', I, q⟩ := h; exact ⟨σ', H', I.out_ ok, q⟩
  | cont => obtain ⟨σ', H', I, q⟩ := h; exact ⟨σ', H', I.out_ ok, q⟩
  | ret u => obtain ⟨v, σ', H', I, r, q⟩ := h; exact ⟨v, σ', H', I.out_ ok, r, q⟩

noncomputable def IsExc (a : Addr) (cls : Value) (dd : Option Addr) (h : Heap) : Prop := ∃ o, h.get? a = some o ∧ o.cls = cls ∧ o.dict = dd ∧ ∃ vs, o.data = .fields vs ∧ vs[2]? = some .none
theorem Inv.caught {dd : Option Addr} (I : Inv X pins σ H s) (x : XAt X pins H s.heap a T cls dd) : Inv X pins σ (upd H a (.ext (IsExc a cls dd))) s := by
  obtain ⟨oe, vs, oT, ts, a0, h1, h2, h3, _⟩ := id x.at_
  have hc2 : vs[2]? = some .none ∧ oe.dict = dd := by
    obtain ⟨o, ws, e1, e2, e3, e4⟩ := x.ctx
    rw [h1] at e1; cases e1
    rw [h3] at e2; cases e2
    exact ⟨e3, e4⟩
  have na := x.na
  have keep : ∀ b o, H b = some o → upd H a (.ext (IsExc a cls dd)) b = some o := fun b o e => by rw [upd_ne (fun z => by rw [z, na.h] at e; cases e)]; exact e
  have none_ : ∀ b, b ≠ a → H b = none → upd H a (.ext (IsExc a cls dd)) b = none := fun b z e => by rw [upd_ne z]; exact e
  refine ⟨I.ok, I.os, I.bare, ⟨I.base.keep, I.base.slot, fun b o e n hx => none_ b (fun z => by rw [z, na.s0] at e; cases e) (I.base.free b o e n hx), I.base.there, fun b xs e => keep _ _ (I.base.tups b xs e), fun b o u e => keep _ _ (I.base.frzs b o u e), fun b ps e => ?_⟩, I.loc, I.cell, none_ _ (fun z => ?_) I.free, fun y c e => none_ _ (fun z => ?_) (I.freeC y c e), fun p hp => ?_, fun b o e => ?_, I.len⟩
  · obtain ⟨more, q⟩ := I.base.tbls b ps e
    exact ⟨more, keep _ _ q⟩
  · obtain ⟨m, ⟨o, es, ep, ho, hd, _⟩, _⟩ := I.loc
    rw [z, h1] at ho; cases ho; rw [h3] at hd; cases hd
  · obtain ⟨v, o, ho, hd⟩ := I.cell y c e
    rw [z, h1] at ho; cases ho; rw [h3] at hd; cases hd
  · obtain ⟨p1, p2, p3⟩ := I.pin p hp
    exact ⟨p1, none_ _ (na.pin p hp) p2, p3⟩
  · by_cases hb : b = a
    · subst hb
      rw [upd_same] at e
      cases e
      exact ⟨⟨oe, h1, h2.1, hc2.2, vs, h3, hc2.1⟩, ⟨oe, h1⟩, fun g1 g2 ⟨o, q, r⟩ k => ⟨o, k o q, r⟩⟩
    · rw [upd_ne hb] at e
      exact (I.hok b o e).stay (fun _ _ _ q => q) (fun c q => keep _ _ q) fun c xs q => keep _ _ q

noncomputable def behind (i : Nat) (D : Ends) : Ends := { nx := fun σ H => D.nx (σ.set i none) H, rt := D.rt, bk := fun σ H => D.bk (σ.set i none) H, ct := fun σ H => D.ct (σ.set i none) H }
noncomputable def subK (K : PySem.W.Frag) (C D : Addr) : Bool := (PySem.W.clsIn K C).any fun cd => cd.mro.contains (.ref D)
noncomputable def tTry (K : PySem.W.Frag) (D : Addr) (i : Nat) (E : St → XK) (tb : TS) (th : Addr → TS) : TS := fun Dd σ H => tb Dd σ H ∧ ∀ σ1 cls dd H1 a, E σ1 cls dd H1 → H1 a = none →
  ∃ C, cls = .ref C ∧ PySem.W.excIn K C bmVE "ValueError.__new__" = true ∧ subK K C D = true ∧ th a (behind i Dd) (σ1.set i (some (.ref a))) (upd H1 a (.ext (IsExc a cls dd)))

theorem SP.unheld {D : Ends} {f : Flow} {s' : Shared} (ok : X.Ok) (h : SP (X.held a) pins D f s') : SP X pins D f s' := by
  cases f with
  | next => obtain ⟨σ', H', I, q⟩ := h; exact ⟨σ', H', I.unheld ok, q⟩
  | brk => obtain ⟨σ', H', I, q⟩ := h; exact ⟨σ', H', I.unheld ok, q⟩
  | cont => obtain ⟨σ', H', I, q⟩ := h; exact ⟨σ', H', I.unheld ok, q⟩
  | ret u => obtain ⟨v, σ', H', I, r, q⟩ := h; exact ⟨v, σ', H', I.unheld ok, r, q⟩
theorem try_front {body : List Stmt} {h₀ : ExceptHandler} {hs : List ExceptHandler} {tb : TS} {E : St → XK} {pos : Pos} {Dd : Ends}
    (hst : X.stack = X.env :: X.outer) (hfr : X.env.frame = some X.env.locals) (hex : X.ex = [])
    (hb : ∀ pn xe, (∀ (pins : List (Addr × Obj)) (σ : St) (H : Hp) (s : Shared) (e : Value) (s' : Shared), Inv (X.in_ pn xe) pins σ H s → CXE X.prog X.w X.stack H s (E σ) e s' → xe e s') → PSs (X.in_ pn xe) body tb)
    (I : Inv X pins σ H s) (h1 : tb Dd σ H)
    (h2 : ∀ σ1 cls dd H1 a, E σ1 cls dd H1 → H1 a = none → ∃ C, cls = .ref C ∧ ∀ s3 T, Inv X pins σ1 H1 s3 → XAt X pins H1 s3.heap a T (.ref C) dd → wpAny (model X.prog X.w) X.A (handleBy (.ref a) X.env (h₀ :: hs)) (SP X pins Dd) X.xe s3) :
    wpAny (model X.prog X.w) X.A (exec (.Try body (h₀ :: hs) [] [] pos) X.env) (SP X pins Dd) X.xe s := by
  refine wpAny_Try_except ?_
  refine wpAny_mono (hb (X.pn ++ pins) (fun e s' => ∃ σ1 H1 a T cls dd, e = .ref a ∧ Inv X pins σ1 H1 s' ∧ XAt X pins H1 s'.heap a T cls dd ∧ E σ1 cls dd H1) ?_ [] s σ H Dd (I.in_ _) h1) (fun f s1 q => ?_) ?_
  · intro pins' σ' H' s' e s'' I' hx
    obtain ⟨a, T, cls, dd, H1, rfl, J, x, q⟩ := I'.raised (by exact hex) hx
    exact ⟨σ', H1, a, T, cls, dd, rfl, J.out_ I.ok, ⟨x.at_, ⟨x.na.s0, x.na.h, fun p hp => x.na.pin p (List.mem_append_left _ hp)⟩, ⟨x.nT.s0, x.nT.h, fun p hp => x.nT.pin p (List.mem_append_left _ hp)⟩, x.ctx⟩, q⟩
  · have q' := SP.out_ I.ok q
    cases f with
    | next => exact wpAny_execs_nil q'
    | brk => exact q'
    | cont => exact q'
    | ret u => exact q'
  · rintro e s1 ⟨σ1, H1, a, T, cls, dd, rfl, I1, x1, q1⟩
    obtain ⟨C, rfl, q2⟩ := h2 σ1 cls dd H1 a q1 x1.na.h
    clear h2 hb h1 q1
    obtain ⟨a0, hfl⟩ := x1.at_.flying I1.stack
    have hfm : X.A.frames = some (X.env :: X.outer) := by rw [← hst]; exact I1.ok.frames
    rw [hst] at hfl
    refine thn (KC.any (kc_noteFrame _ _) x1.ctx (wpAny_looks_onW (Q := fun _ s2 => ∃ h', s2 = { s1 with heap := h' } ∧ Heap.HeldW _ (X.env :: X.outer) a (.ref C) a0 X.env.locals h' ∧ s1.heap.UpToSlots h') hfm hfr hfl fun h4 hh4 sl4 => ⟨h4, rfl, hh4, sl4⟩)) ?_
    rintro _ s2 ⟨⟨h4, rfl, hh4, sl4⟩, c4⟩
    refine thn (KC.any (kc_setFlight _ _) c4 (wpAny_landsW (Q := fun _ s2 => ∃ h', s2 = { s1 with heap := h' } ∧ Heap.FlyingW _ (X.env :: X.outer) a (.ref C) a0 h' ∧ h4.UpToSlots h') hh4 fun h5 hh5 sl5 => ⟨h5, rfl, hh5, sl5⟩)) ?_
    rintro _ s3 ⟨⟨h5, rfl, hf5, sl5⟩, c5⟩
    rw [← hst] at hf5
    obtain ⟨I5, T5, x5⟩ := XAt.step (t' := s1.toks) I1 hex x1 hf5 (sl4.trans sl5) c5
    exact q2 _ _ I5 x5
theorem try_test {dd : Option Addr} {C D : Addr} {x : Str} {np pos : Pos} {R : Result → Shared → Prop} (hg : Gl X x) (hm : X.mg x = some (.ref D)) (cC : PySem.W.excIn X.K C bmVE "ValueError.__new__" = true) (cD : PySem.W.excIn X.K D bmVE "ValueError.__new__" = true) (hdb : (x == ("__debug__" : Str)) = false)
    (I : Inv X pins σ H s) (xa : XAt X pins H s.heap a T (.ref C) dd) (h : R (.ok (if subK X.K C D then .brk else .next)) s) :
    codeAny (model X.prog X.w) (X.A.mark (some (.ref a))) (.handlers (.ref a) [.ExceptHandler (some (.Name x np)) none [] pos] X.env) R s := by
  obtain ⟨up, kC, cd, ec, em⟩ := XCl.of_in I.kIn cC
  obtain ⟨up', kD, _⟩ := XCl.of_in I.kIn cD
  refine codeAny_handlers_test (ld_glob (I.held a) hg hm ?_ hdb)
  obtain ⟨oe, vs, oT, ts, a0', y1, y2, _⟩ := id xa.at_
  refine excMatches_own kC kD y1 y2.1 ?_
  have hin : (Value.ref C :: up).contains (.ref D) = subK X.K C D := by
    unfold subK
    rw [ec, ← em]; rfl
  rw [hin]
  exact h
theorem suite_in {dd : Option Addr} {C : Addr} {M : Model} {A : Around} {E : Value → Shared → Prop} {Q : Unit → Shared → Prop} (hex : X.ex = []) (I : Inv X pins σ H s) (xa : XAt X pins H s.heap a T (.ref C) dd)
    (h : ∀ s', Inv X pins σ (upd H a (.ext (IsExc a (.ref C) dd))) s' → Q () s') : wpAny M A (setFlight (.ref a) none) Q E s := by
  obtain ⟨a1, hfl⟩ := xa.at_.flying I.stack
  refine thn (KC.any (kc_setFlight _ _) xa.ctx (lands_againW (Q := fun _ s2 => ∃ h', s2 = { s with heap := h' } ∧ Heap.FlyingW _ X.stack a (.ref C) a1 h' ∧ s.heap.UpToSlots h') hfl fun h6 hh6 sl6 => ⟨h6, rfl, hh6, sl6⟩)) ?_
  rintro _ s4 ⟨⟨h6, rfl, hf6, sl6⟩, c6⟩
  obtain ⟨I6, T6, x6⟩ := XAt.step (t' := s.toks) I hex xa hf6 sl6 c6
  exact h _ (I6.caught x6)
theorem ps_try {body suite : List Stmt} {b₀ : Stmt} {x n : Str} {i : Nat} {D : Addr} {tb : TS} {th : Addr → TS} {E : St → XK} {pos hpos np : Pos}
    (hst : X.stack = X.env :: X.outer) (hfr : X.env.frame = some X.env.locals) (hex : X.ex = []) (hN : X.N.Nodup) (hi : X.N[i]? = some n) (hk : X.env.scope.names.lookup n = some .local)
    (cD : PySem.W.excIn X.K D bmVE "ValueError.__new__" = true) (hg : Gl X x) (hm : X.mg x = some (.ref D))
    (hb : ∀ pn xe, (∀ (pins : List (Addr × Obj)) (σ : St) (H : Hp) (s : Shared) (e : Value) (s' : Shared), Inv (X.in_ pn xe) pins σ H s → CXE X.prog X.w X.stack H s (E σ) e s' → xe e s') → PSs (X.in_ pn xe) body tb)
    (hh : ∀ a, PSs (X.held a) (b₀ :: suite) (th a)) (hdb : (x == ("__debug__" : Str)) = false := by decide) :
    PS X (.Try body [.ExceptHandler (some (.Name x np)) (some n) (b₀ :: suite) hpos] [] [] pos) (tTry X.K D i E tb th) := by
  intro pins s σ H Dd I ⟨h1, h2⟩
  refine try_front hst hfr hex hb I h1 fun σ1 cls dd H1 a q1 hn => ?_
  obtain ⟨C, rfl, cC, hsub, q2⟩ := h2 σ1 cls dd H1 a q1 hn
  refine ⟨C, rfl, fun s3 T I5 x5 => wpAny_handleBy_cons (try_test hg hm cC cD hdb I5 x5 ?_) (by intro q; cases q)⟩
  rw [hsub]
  refine codeAny_handlers_suite_as (suite_in hex I5 x5 fun s6 I6 => ?_)
  refine store_ok I6 hN hi (.inl hk) (v := .ref a) rfl (fun s7 I7 => ?_) (.inr hk)
  refine wpAny_mono (hh a pins s7 _ _ (behind i Dd) (I7.held a) q2) (fun f s8 q8 => ?_) fun _ _ z => z.elim
  have q9 := SP.unheld I.ok q8
  cases f with
  | next => obtain ⟨σ8, H8, I8, q8⟩ := q9; exact unbind_ok I8 hN hi hk fun s9 I9 => ⟨_, H8, I9, q8⟩
  | brk => obtain ⟨σ8, H8, I8, q8⟩ := q9; exact unbind_ok I8 hN hi hk fun s9 I9 => ⟨_, H8, I9, q8⟩
  | cont => obtain ⟨σ8, H8, I8, q8⟩ := q9; exact unbind_ok I8 hN hi hk fun s9 I9 => ⟨_, H8, I9, q8⟩
  | ret u => obtain ⟨v, σ8, H8, I8, r8, q8⟩ := q9; exact unbind_ok I8 hN hi hk fun s9 I9 => ⟨v, _, H8, I9, r8, q8⟩
end
end L2
namespace L2
open PySem PySem.Spec PyProof.Rows

end L2
namespace L2
open PySem PySem.Spec PyProof.Rows
end L2
namespace L2
open PySem PySem.Spec PyProof.Rows
open PySem.W (InstAt findIn mroIn specialIn takesIn looks_findIn looks_mroIn)
section
variable {prog : Program} {w : World} {A : Around} {E : Value → Shared → Prop} {K : PySem.W.Frag} {h : Heap} {g : Array GenState} {d : Drawn} {t : Nat} {os : OsState} {x D : Addr} {ox : Obj}

theorem xc_entry {tk : Tok} {Q : Fin → Shared → Prop} (X : K.In h) (I : InstAt h x ox D none) (ha : findIn K (.ref D) "__class__" = some (some (.builtin "object.__class__"))) (hm : mroIn K D (.type "object") = some true)
    (hq : Q (.done (.ret (.ref D))) ⟨h, g, d, t, os⟩) : wpAny (model prog w) A (Builtin.«object.__getattribute__» ⟨[.ref x, .str "__class__" tk], []⟩) Q E ⟨h, g, d, t, os⟩ := by
  have hT5 : (⟨h, g, d, t, os⟩ : Shared).TypeIs (.builtin "object.__class__") "getset_descriptor" := F.typeOf_object_class
  have f5 := F.typeOf_object_class
  have f6 := F.slot_gs_get.lookup
  have f7 := F.slot_gs_set.lookup
  have hx := I.at_
  have hc := I.cls
  have L1 := looks_findIn (M := model prog w) X ha
  repeat (any_goals (first | assumption | (with_reducible refine wpAny_loadPart_at hx ?_; rw [hc]) | with_reducible refine L1.at ?_ | wp_step))
  refine PySem.W.class_get (od := none) X I hm ?_
  repeat (any_goals (first | assumption | wp_step))
theorem xc_check {M : Model} {nameV : Value} {Q : Unit → Shared → Prop} (X : K.In h) (I : InstAt h x ox D none) (hB : mroIn K D (.type "BaseException") = some true) (hq : Q () ⟨h, g, d, t, os⟩) :
    wpAny M A (checkBuiltinCall "BaseException.__getattribute__" ⟨[.ref x, nameV], []⟩) Q E ⟨h, g, d, t, os⟩ := by
  have hk : builtinKind "BaseException.__getattribute__" = some .slot := by decide +kernel
  have hsplit : splitId "BaseException.__getattribute__" = some ("BaseException", "__getattribute__") := by decide +kernel
  have L1 := looks_mroIn (M := M) X hB
  have ha := F.args_bexc_ga (.ref x) nameV
  have hx := I.at_
  have hc := I.cls
  simp only [checkBuiltinCall, hk, hsplit]
  refine wpAny_bind ?_
  · unfold isInstance
    repeat (first | (with_reducible refine wpAny_loadPart_at hx ?_; rw [hc]) | with_reducible refine L1.at ?_ | wp_step)
    exact hq

theorem xc_call {tk : Tok} {R : Result → Shared → Prop} (X : K.In h) (I : InstAt h x ox D none) (ha : findIn K (.ref D) "__class__" = some (some (.builtin "object.__class__"))) (hm : mroIn K D (.type "object") = some true) (hB : mroIn K D (.type "BaseException") = some true)
    (hq : R (.ok (.ret (.ref D))) ⟨h, g, d, t, os⟩) : codeAny (model prog w) A (.call (.builtin "BaseException.__getattribute__") ⟨[.ref x, .str "__class__" tk], []⟩) R ⟨h, g, d, t, os⟩ :=
  codeAny_call_builtin F.excAttr_ValueError.ga.plain F.entry_bexc_ga (xc_check X I hB (xc_entry X I ha hm hq))

theorem xc_by {tk : Tok} {Q : Value → Shared → Prop} (X : K.In h) (I : InstAt h x ox D none) (hga : findIn K (.ref D) "__getattribute__" = some (some (.builtin "BaseException.__getattribute__"))) (hgg : findIn K (.ref D) "__getattr__" = some none)
    (ha : findIn K (.ref D) "__class__" = some (some (.builtin "object.__class__"))) (hm : mroIn K D (.type "object") = some true) (hB : mroIn K D (.type "BaseException") = some true)
    (hq : Q (.ref D) ⟨h, g, d, t, os⟩) : wpAny (model prog w) A (getAttrBy (.ref x) (.str "__class__" tk) false) Q E ⟨h, g, d, t, os⟩ := by
  have f3 := F.excAttr_ValueError.ga.bind (.ref x)
  have hx := I.at_
  have hc := I.cls
  have L1 := looks_findIn (M := model prog w) X hga
  have L2 := looks_findIn (M := model prog w) X hgg
  have hx2 : (Value.builtin "BaseException.__getattribute__" == Value.builtin "object.__getattribute__") = false := by decide +kernel
  have hx1 : (onTheHeap (Value.ref D) && Value.builtin "BaseException.__getattribute__" == Value.builtin "object.__getattribute__") = false := by rw [hx2]; rfl
  repeat (any_goals (first | assumption | (with_reducible refine wpAny_loadPart_at hx ?_; rw [hc]) | with_reducible refine L1.at ?_ | with_reducible refine L2.at ?_ | wp_step))
  refine xc_call X I ha hm hB ?_
  repeat (any_goals (first | assumption | wp_step))

theorem xc_attr {Q : Option Value → Shared → Prop} (X : K.In h) (I : InstAt h x ox D none) (hga : findIn K (.ref D) "__getattribute__" = some (some (.builtin "BaseException.__getattribute__"))) (hgg : findIn K (.ref D) "__getattr__" = some none)
    (ha : findIn K (.ref D) "__class__" = some (some (.builtin "object.__class__"))) (hm : mroIn K D (.type "object") = some true) (hB : mroIn K D (.type "BaseException") = some true)
    (hq : Q (some (.ref D)) ⟨h, g, d, t + 1, os⟩) : wpAny (model prog w) A (getAttr? (.ref x) "__class__") Q E ⟨h, g, d, t, os⟩ := by
  unfold getAttr? getAttrBy?
  repeat (any_goals (first | assumption | with_reducible apply xc_by X I hga hgg ha hm hB | wp_step))
end

set_option genInjectivity false in
set_option genSizeOf false in
structure XC (K : PySem.W.Frag) (D : Addr) : Prop where
  ga : findIn K (.ref D) "__getattribute__" = some (some (.builtin "BaseException.__getattribute__"))
  gg : findIn K (.ref D) "__getattr__" = some none
  cl : findIn K (.ref D) "__class__" = some (some (.builtin "object.__class__"))
  mo : mroIn K D (.type "object") = some true
  mb : mroIn K D (.type "BaseException") = some true
  cc : (PySem.W.clsIn K D).isSome = true
theorem kitx_exc {K : PySem.W.Frag} {x D : Addr} {ox : Obj} (c : XC K D) : PySem.W.KitX K (.ref x) (.ref D) (fun h => InstAt h x ox D none) where
  ty := fun _ _ _ I => I.type
  it := fun _ _ X _ => by
    have hcD := c.cc
    unfold PySem.W.clsIn at hcD
    split at hcD
    · rename_i c' d' cd' sl' ho
      intro A' Q' E' s' k q
      unfold isType loadHead
      exact wpAny_bind (wpAny_loadPart (k _ _ (X _ _ ho)) (wpAny_pure q))
    · cases hcD
  ne := fun h tp dd its n sl X htp => by
    have hcD := c.cc
    refine Bool.eq_false_iff.mpr fun q => ?_
    have e : D = tp := Value.ref.inj (beq_iff_eq.mp q)
    subst e
    unfold PySem.W.clsIn at hcD
    split at hcD
    · rename_i c' d' cd' sl' ho
      have z := (X _ _ ho).symm.trans htp
      cases z
    · cases hcD
  ca := fun {_ _ _ _ _ s} X I k => by
    obtain ⟨h, g, d, t, os⟩ := s
    exact xc_attr X I c.ga c.gg c.cl c.mo c.mb k
end L2
namespace L2
open PySem PySem.Spec PyProof.Rows
inductive ClsV : V → Value → Prop where
  | own (D : Addr) : ClsV (.ref D) (.ref D)
  | ty (n : String) : ClsV (.ty n) (.type n)
theorem call_isX {X : Cx} : CallR X (.builtin "isinstance") (fun xs H Q => ∃ a C c cv b, xs = [.ref a, c] ∧ ClsV c cv ∧ H a = some (.ext (IsExc a (.ref C) none)) ∧ XC X.K C ∧ PySem.W.kitOne X.K (.ref C) cv = some b ∧ Q (.bl b) H) := by
  intro pins s σ H xs us Q I r h
  obtain ⟨a, C, c, cv, b, rfl, hc, ha, xc, e, q⟩ := h
  obtain ⟨u, v, rfl, ru, rv⟩ := vals2 r
  cases (show u = Value.ref a from ru)
  have ev : v = cv := by
    cases hc with
    | own D => exact (show v = Value.ref D from rv)
    | ty n => exact (show v = Value.type n from rv)
  subst ev
  obtain ⟨⟨o, h1, h2, h3, vs, h4, _⟩, _⟩ := (show ObjOk X.prog X.w H s.heap a (.ext (IsExc a (.ref C) none)) from I.hok a _ ha)
  have J : PySem.W.InstAt s.heap a o C none := ⟨h1, h2, by unfold PySem.W.notCls; rw [h4], by rw [h3]; exact True.intro⟩
  exact PySem.W.kia_one (kitx_exc xc) I.kIn J e (fun z => nomatch z) fun tk => ⟨.bl b, H, I.tok _, rfl, q⟩
end L2
namespace L2
open PySem PySem.Spec PyProof.Rows
section
variable {X : Cx} {CX : CXT} {k : Nat} {f : Addr} {fd : FuncData} {ps : List Str} {sp : Sp} {dvs : List V} {ds : List Value} {E : St → XK} {x : Str} {p pos : Pos} {e : Expr} {es : List Expr} {t : TA}
noncomputable def tCallS (sp : Sp) (dvs : List V) (E : St → XK) (t : TA) : TE := fun σ H Q => t σ H fun vs H1 => sp (vs ++ dvs) H1 Q (E σ)
theorem pe_callS (F : FnOk X.prog X.w X.K X.mg X.base CX k f fd ps sp) (hr : Room k X.A) (hg : Gl X x) (hm : X.mg x = some (.ref f)) (hk : PySem.W.keepIn X.K (.ref f) = true) (hb : Binds X.K fd ps ds) (hd : Vals dvs ds)
    (hx : ∀ (pins : List (Addr × Obj)) (σ : St) (H : Hp) (s : Shared) (e : Value) (s' : Shared), Inv X pins σ H s → CX X.stack H s (E σ) e s' → X.xe e s')
    (ha : PA X (e :: es) t) (hdb : (x == ("__debug__" : Str)) = false := by decide) (he : starEach (e :: es) X.env = (false, eval e X.env) :: starEach es X.env := by rfl) (hpl : (backTo pos (starEach es X.env)).any (·.1) = false := by rfl) :
    PE X (.Call (.Name x p) (e :: es) [] pos) (tCallS sp dvs E t) := by
  intro pins s σ H Q I h
  refine wpAny_Call_Name_kw (ld_glob I hg hm ?_ hdb)
  refine PySem.W.callWith_K (h₀ := X.base) I.ok.mod.kin hk (thn (ha pos pins s σ H _ I h) fun us s1 ⟨vs, H1, I1, r, h1⟩ => ⟨I1.kIn, ?_⟩) he hpl
  have r2 : Vals (vs ++ dvs) (us ++ ds) := r.append hd
  have hl : (us ++ ds).length = ps.length := by rw [← r2.length]; exact F.len _ _ _ _ h1
  refine wpAny_call (codeAny_mono (F.run X.A X.stack s1 H1 ⟨us, []⟩ (us ++ ds) (vs ++ dvs) Q (E σ) hr I1.env0 (hb s1 us I1.kIn hl) r2 h1) fun r s' hq => ?_)
  cases r with
  | error e => exact hx pins σ H1 s1 e s' I1 hq
  | ok fl =>
    cases fl with
    | ret u => exact I1.after hq
    | next => exact False.elim hq
    | brk => exact False.elim hq
    | cont => exact False.elim hq
end
section
variable {P : Program} {w : World} {K : PySem.W.Frag} {mg : Str → Option Value} {base : Heap}
theorem Fun.okE {x qual : Str} {st : Stmt} {f : Addr} {fd : FuncData} {N ps : List Str} {k : Nat} {sp : Sp} (F : Fun K x qual st f fd) (S : FnScope N ps (defScope st)) (len : ∀ vs H Q E, sp vs H Q E → vs.length = ps.length)
    (hbody : ∀ (cdv : Value) (A : Around) (outer : List Env) (s : Shared) (H : Hp) (vs : List V) (Q : VK) (E : XK), Room k (A.deeper (envOfC qual (defScope st) s.heap.objs.size f cdv)) → sp vs H Q E →
      ∃ t, PSs (cxOf (CXE P w) P w K mg base N qual (defScope st) f cdv A outer s H E) (defBody st) t ∧ t { nx := fun _ H' => Q .non H', rt := Q } (start N vs) H) : FnOk P w K mg base (CXE P w) (k + 1) f fd ps sp := by
  obtain ⟨oc, od, kV, doc, pm, an, cdv, ct, osl, rfl, lk, hcd⟩ := F.ex
  exact fn_of lk hcd S len fun A outer s H vs Q E hr hsp => hbody cdv A outer s H vs Q E hr hsp
end
end L2
theorem boot_ValueErrorX : PySem.bootBuiltins "ValueError" = some (.type "ValueError") := PyProof.Rows.Boot.«ValueError»
namespace L2
open PySem PySem.Spec PyProof.Rows
open PySem.W (hideAll hideAll_get hideAll_none of_hideAll funFrames_hide)
section
variable {X : Cx}
noncomputable def tTry2 (K : PySem.W.Frag) (D D2 : Addr) (E : St → XK) (tb : TS) (th th2 : Addr → TS) : TS := fun Dd σ H => tb Dd σ H ∧ ∀ σ1 cls dd H1 a, E σ1 cls dd H1 → H1 a = none →
  ∃ C, cls = .ref C ∧ PySem.W.excIn K C bmVE "ValueError.__new__" = true ∧ ((subK K C D = true ∧ th a Dd σ1 (upd H1 a (.ext (IsExc a cls dd)))) ∨ (subK K C D = false ∧ subK K C D2 = true ∧ th2 a Dd σ1 (upd H1 a (.ext (IsExc a cls dd)))))
theorem ps_try2 {body suite suite2 : List Stmt} {b₀ c₀ : Stmt} {x x2 : Str} {D D2 : Addr} {tb : TS} {th th2 : Addr → TS} {E : St → XK} {pos hpos hpos2 np np2 : Pos}
    (hst : X.stack = X.env :: X.outer) (hfr : X.env.frame = some X.env.locals) (hex : X.ex = [])
    (cD : PySem.W.excIn X.K D bmVE "ValueError.__new__" = true) (hg : Gl X x) (hm : X.mg x = some (.ref D)) (cD2 : PySem.W.excIn X.K D2 bmVE "ValueError.__new__" = true) (hg2 : Gl X x2) (hm2 : X.mg x2 = some (.ref D2))
    (hb : ∀ pn xe, (∀ (pins : List (Addr × Obj)) (σ : St) (H : Hp) (s : Shared) (e : Value) (s' : Shared), Inv (X.in_ pn xe) pins σ H s → CXE X.prog X.w X.stack H s (E σ) e s' → xe e s') → PSs (X.in_ pn xe) body tb)
    (hh : ∀ a, PSs (X.held a) (b₀ :: suite) (th a)) (hh2 : ∀ a, PSs (X.held a) (c₀ :: suite2) (th2 a)) (hdb : (x == ("__debug__" : Str)) = false := by decide) (hdb2 : (x2 == ("__debug__" : Str)) = false := by decide) :
    PS X (.Try body [.ExceptHandler (some (.Name x np)) none (b₀ :: suite) hpos, .ExceptHandler (some (.Name x2 np2)) none (c₀ :: suite2) hpos2] [] [] pos) (tTry2 X.K D D2 E tb th th2) := by
  intro pins s σ H Dd I ⟨h1, h2⟩
  refine try_front hst hfr hex hb I h1 fun σ1 cls dd H1 a q1 hn => ?_
  obtain ⟨C, rfl, cC, q2⟩ := h2 σ1 cls dd H1 a q1 hn
  refine ⟨C, rfl, fun s3 T I5 x5 => wpAny_handleBy_cons (try_test hg hm cC cD hdb I5 x5 ?_) (by intro q; cases q)⟩
  rcases q2 with ⟨hsub, q2⟩ | ⟨hsub, hsub2, q2⟩
  · rw [hsub]
    exact codeAny_handlers_suite (suite_in hex I5 x5 fun s6 I6 => wpAny_mono (hh a pins _ _ _ Dd (I6.held a) q2) (fun f s8 q8 => SP.unheld I.ok q8) fun _ _ z => z.elim)
  · rw [hsub]
    refine wpAny_handleBy_cons (try_test hg2 hm2 cC cD2 hdb2 I5 x5 ?_) (by intro q; cases q)
    rw [hsub2]
    exact codeAny_handlers_suite (suite_in hex I5 x5 fun s6 I6 => wpAny_mono (hh2 a pins _ _ _ Dd (I6.held a) q2) (fun f s8 q8 => SP.unheld I.ok q8) fun _ _ z => z.elim)
end
end L2
namespace L2
open PySem PySem.Spec PyProof.Rows
noncomputable def Itit (d : Addr) (ob : Obj) (kvs : List (Key × V)) : It :=
  ⟨fun i H => H d = some (.frz ob (.dK kvs)) ∧ i < kvs.length, fun i H x H' => ∃ p q, H p = none ∧ x = .ref p ∧ kvs[i]? = some q ∧ H' = upd H p (.tup [kV q.1, q.2]), fun i H => H d = some (.frz ob (.dK kvs)) ∧ kvs.length ≤ i⟩
theorem turn_ditems {P : Program} {w : World} {K : PySem.W.Frag} {elts : List Expr} {x1 : Nat} {tp : Pos} (d it : Addr) (ob : Obj) (kvs : List (Key × V)) (es : Array _) (ep : Nat) (he : ob.data = .dict es ep) :
    Turn P w K (.Tuple elts x1 tp) (Itit d ob kvs) [it] it (fun i h => ∃ ok ov, IsItemIter h it d i kvs.length ep ok ov) where
  mem := by simp
  obj := fun i h st b hb => by
    have e : b = it := by simpa using hb
    subst e
    obtain ⟨ok, ov, e⟩ := st
    exact ⟨_, e, fun v z => by cases z⟩
  keep := fun i h h' st k => by
    obtain ⟨ok, ov, e⟩ := st
    exact ⟨ok, ov, k it (by simp) _ e⟩
  item := by
    intro X hP hw hK hc i pins s σ H E I hf st hg
    subst hP hw hK
    obtain ⟨hd, hi⟩ := hg
    obtain ⟨vs, rel, hm⟩ := frz_dict he I hd
    have lvs : kvs.length = vs.length := rel.length
    have fi := hf it (by simp)
    have hx : vs[i]? = some (vs[i].1, vs[i].2) := by simp [← lvs, hi]
    obtain ⟨ok, ov, st⟩ := st
    rw [lvs] at st
    refine wpAny_pyNext_items_item st hm hx fun key h' hkey hout hT hsz hk => ⟨_, rfl, ?_⟩
    refine wpAny_letOwnedTupleGo_items hout fun h2 he2 hs2 => ?_
    have he2' : IsItemIter h2 it d (i + 1) vs.length ep key vs[i].2 := he2
    have hs2' : Heap.SameBut it h' h2 := hs2
    have hli : it < s.heap.objs.size := Heap.lt_size st
    have hn : H s.heap.objs.size = none := I.hok.fresh (Nat.le_refl _)
    have hT2 : h2.get? s.heap.objs.size = some { cls := .type "tuple", data := .seq #[key, vs[i].2] } := (hs2'.2 _ (Nat.ne_of_gt hli)).trans hT
    have hk1 : (kvs.map (·.1))[i]? = some vs[i].1 := by rw [rel.keys, List.getElem?_map, hx]; rfl
    rw [List.getElem?_map] at hk1
    obtain ⟨p, hp, ep1⟩ := Option.map_eq_some_iff.mp hk1
    obtain ⟨p', hp', rp⟩ := rel.get hx
    have epp : p' = p := by rw [hp] at hp'; exact (Option.some.inj hp').symm
    subst epp
    have rk : RelV (kV p'.1) key := by rw [ep1]; exact kV_rel hkey
    have I1 : Inv X pins σ (upd H s.heap.objs.size (.tup [kV p'.1, p'.2])) { s with heap := s.heap.push { cls := .type "tuple", data := .seq #[key, vs[i].2] }, toks := s.toks } :=
      I.laid (fun b o q => Heap.get?_push_of_some _ q) (Nat.le_refl _) ⟨by show 2 ≤ sizeLine; decide, [key, vs[i].2], .cons rk (.cons rp .nil), ⟨_, Heap.get?_push_size _ rfl, rfl, _, rfl⟩, _, Heap.get?_push_size _ rfl, rfl⟩
    have kk : ∀ (b : Addr) (o : Obj), b ≠ it → b ≠ it → (s.heap.push { cls := .type "tuple", data := .seq #[key, vs[i].2] }).get? b = some o → h2.get? b = some o := fun b o be _ q' => by
      by_cases hb : b = s.heap.objs.size
      · subst hb
        rw [Heap.get?_push_size _ rfl] at q'
        cases q'
        exact hT2
      · rw [Heap.get?_push_ne _ _ _ hb] at q'
        exact (hs2'.2 b be).trans (hk b o be q')
    have I2 := Inv.turned2 (h' := h2) (t' := s.toks) (e := it) (it := it) I1 kk (fi.upd (Nat.ne_of_lt hli)) (fi.upd (Nat.ne_of_lt hli))
    refine ⟨.ref s.heap.objs.size, _, I2, rfl, ⟨_, p', hn, rfl, hp, rfl⟩, ⟨_, _, by rw [lvs]; exact he2'⟩, fun b hb => ?_⟩
    have z : b = it := by simpa using hb
    subst z
    exact (fi.upd (Nat.ne_of_lt hli)).1
  done := by
    intro X hP hw hK hc i pins s σ H E I hf st hg
    subst hP hw hK
    obtain ⟨hd, hi⟩ := hg
    obtain ⟨vs, rel, hm⟩ := frz_dict he I hd
    have lvs : kvs.length = vs.length := rel.length
    obtain ⟨f0, f1, f2, f3, f4, f5⟩ := hf it (by simp)
    obtain ⟨ok, ov, st⟩ := st
    rw [lvs] at st
    exact wpAny_pyNext_items_end (I.ok.hd hc) st hm (by simp; omega) fun h' eb => ⟨rfl, I.turned (t' := s.toks) (fun b o hb e => eb b o hb e) f0 f1 f3 f4 f5⟩
  self := fun _ _ _ _ _ st h => by
    obtain ⟨ok, ov, st⟩ := st
    exact PySem.W.kcp_self st h
section
variable {X : Cx}
noncomputable def iDitems (tl : TE) : TI := fun σ H R => tl σ H fun x H1 => ∃ d kvs, x = .ref d ∧ H1 d = some (.dK kvs) ∧ ∀ ob, R (Itit d ob kvs) (upd H1 d (.frz ob (.dK kvs)))
theorem pi_ditems {l : Expr} {tl : TE} {apos cpos tp : Pos} {elts : List Expr} {x1 : Nat} (hl : PE X l tl) (hbase : attributeBase l "items" X.env (eval l X.env) = eval l X.env := by rfl) (hline : (apos.endLine == cpos.line) = true := by rfl) :
    PI X (.Tuple elts x1 tp) (.Call (.Attribute l "items" apos) [] [] cpos) (iDitems tl) := by
  intro pins s σ H R I h
  refine wpAny_Call_method0_late hbase hline (thn (hl pins s σ H _ I h) fun v s1 ⟨x, H1, I1, r1, q1⟩ => ?_)
  obtain ⟨d, kvs, e, hd, q⟩ := q1
  subst e
  obtain ⟨h1, h2⟩ := tyV_is (T := "dict") I1 r1 (.inr (.inr (.inl ⟨rfl, .inl ⟨kvs, hd⟩⟩)))
  cases r1
  obtain ⟨z, hsys, vs, rel, dd⟩ := dk_of I1.hok hd
  refine ⟨"dict", "dict.items", PySem.F.plainAttrs_dict, PySem.F.slot_dict_items, PySem.F.type_dict_items, h1, h2, Calls.callWith_builtin rfl (PySem.evalArgs_none ?_)⟩
  refine call_meetsIn PySem.F.slot_dict_items dd.typeIs PySem.F.entry_dict_items (PySem.F.args_dict_items_1 _) (meets_dict_items (mixKind X.prog X.w) d hsys) ⟨⟨vs, dd⟩, ?_⟩
  have I2 := I1.kept (t' := s1.toks) (h' := s1.heap.push { cls := .type "dict_items", data := .fields #[.ref d] }) fun b o e => Heap.get?_push_of_some _ e
  have hv : (s1.heap.push { cls := .type "dict_items", data := .fields #[.ref d] }).IsItemsView s1.heap.objs.size d := ⟨_, Heap.get?_push_size _ rfl, rfl, rfl⟩
  generalize s1.heap.push { cls := .type "dict_items", data := .fields #[.ref d] } = h2 at *
  obtain ⟨z, hsys, vs, rel, dd⟩ := dk_of I2.hok hd
  obtain ⟨ob, es, ep, ho, r1, he, r3⟩ := id dd
  have hat : h2.DictAt (mixKind X.prog X.w) d vs ep := ⟨ob, es, ho, r1, he, r3⟩
  have lvs : kvs.length = vs.length := rel.length
  refine wpAny_pyIter_items hv hat ?_
  have I3 := I2.kept (t' := s1.toks) (h' := h2.push { cls := .type "dict_itemiterator", data := .fields #[.none, .bool false, .ref d, .int 0 0, .int vs.length 0, .int ep 0, .none, .none] }) fun b o e => Heap.get?_push_of_some _ e
  have ho2 := Heap.get?_push_of_some { cls := .type "dict_itemiterator", data := .fields #[.none, .bool false, .ref d, .int 0 0, .int vs.length 0, .int ep 0, .none, .none] } ho
  have I4 := I3.write (x := d) (e := d) (o := .frz ob (.dK kvs)) (t' := s1.toks) (h' := h2.push { cls := .type "dict_itemiterator", data := .fields #[.none, .bool false, .ref d, .int 0 0, .int vs.length 0, .int ep 0, .none, .none] }) (by rw [hd]; trivial) (.inl rfl) (fun b u _ e => e) ⟨_, ho2⟩ ⟨ho2, z, hsys, vs, rel, ob, es, ep, ho2, r1, he, r3⟩
  have nd : d ≠ h2.objs.size := Nat.ne_of_lt (Heap.lt_size ho)
  refine ⟨h2.objs.size, [h2.objs.size], _, _, _, rfl, I4, turn_ditems d _ ob kvs es ep he, ?_, fun b hb => ?_, q ob⟩
  · rw [lvs]
    exact ⟨_, _, Heap.get?_push_size _ rfl⟩
  · have e : b = h2.objs.size := by simpa using hb
    subst e
    exact I2.fpOk (Nat.le_refl _) (by rw [upd_ne (Ne.symm nd)]; exact I2.hok.fresh (Nat.le_refl _))
noncomputable def tThawE (t : TE) : TE := fun σ H Q => ∃ d kvs, H d = some (.dK kvs) ∧ t σ H fun v H' => (∃ ob, H' d = some (.frz ob (.dK kvs))) ∧ Q v (upd H' d (.dK kvs))
theorem pe_thaw {e : Expr} {t : TE} (h : PE X e t) : PE X e (tThawE t) := by
  intro pins s σ H Q I hh
  obtain ⟨d, kvs, hd, ht⟩ := hh
  have hf : ∀ o v, X.H₀ d ≠ some (.frz o v) := fun o v e => by
    have := I.base.frzs d o v e
    rw [hd] at this
    cases this
  refine wpAny_mono (h pins s σ H _ I ht) (fun u s' q => ?_) (fun _ _ z => z)
  obtain ⟨v, H', I', r, ⟨ob, ho⟩, q'⟩ := q
  exact ⟨v, _, I'.thaw ho hf, r, q'⟩
end
section
variable {tt : TT} {te : TE} {g : TG} {fr : List (Str × Nat)} {n : Nat} {σ : St} {R : Hp → Prop} {D : Addr} {H1 : Hp}
theorem compG_ditems {d : Addr} {ob : Obj} {kvs : List (Key × V)} (Pv : Nat → List V → Hp → Prop) (h0 : Pv 0 [] (upd H1 D (.lst []))) (hD : ∀ i acc H2, i ≤ kvs.length → Pv i acc H2 → H2 D = some (.lst acc) ∧ acc.length < sizeLine ∧ H2 d = some (.frz ob (.dK kvs)))
    (hs : ∀ i q acc H2 p (N : List V → Hp → Prop), kvs[i]? = some q → (∀ acc' H', Pv (i + 1) acc' H' → N acc' H') → Pv i acc H2 → H2 p = none → g (.ref p) (nones n ++ slotsC fr σ) (upd H2 p (.tup [kV q.1, q.2])) fun σ1 H3' => ∃ vs : St, vs.length = n ∧ σ1 = vs ++ slotsC fr σ ∧ tt σ1 H3' fun b H4 =>
      if b = true then te σ1 H4 fun y H5 => H5 D = some (.lst acc) ∧ N (acc ++ [y]) (upd H5 D (.lst (acc ++ [y]))) else N acc H4)
    (hd : ∀ acc H2, Pv kvs.length acc H2 → R H2) :
    ∃ W : Nat → Nat → List V → Hp → Prop, (∃ m, W 0 m [] (upd H1 D (.lst []))) ∧ ∀ i m acc H2, W i m acc H2 →
      H2 D = some (.lst acc) ∧ (((Itit d ob kvs).stop i H2 ∧ R H2) ∨ (acc.length < sizeLine ∧ (Itit d ob kvs).go i H2 ∧ ∀ x H3, (Itit d ob kvs).yld i H2 x H3 → g x (nones n ++ slotsC fr σ) H3 fun σ1 H3' => ∃ vs : St, vs.length = n ∧ σ1 = vs ++ slotsC fr σ ∧ tt σ1 H3' fun b H4 =>
        if b = true then te σ1 H4 fun y H5 => H5 D = some (.lst acc) ∧ ∃ m', m' < m ∧ W (i + 1) m' (acc ++ [y]) (upd H5 D (.lst (acc ++ [y]))) else ∃ m', m' < m ∧ W (i + 1) m' acc H4)) := by
  refine ⟨fun i m acc H => m = kvs.length - i ∧ i ≤ kvs.length ∧ Pv i acc H, ⟨kvs.length, by simp, Nat.zero_le _, h0⟩, ?_⟩
  rintro i m acc H2 ⟨rfl, hi, p⟩
  obtain ⟨d1, d2, d3⟩ := hD i acc H2 hi p
  refine ⟨d1, ?_⟩
  by_cases hlt : i < kvs.length
  · refine .inr ⟨d2, ⟨d3, hlt⟩, fun x H3 y => ?_⟩
    obtain ⟨r, z, hr, e, y, e'⟩ := y
    subst e e'
    exact hs i z acc _ r (fun acc' H' => ∃ m', m' < kvs.length - i ∧ m' = kvs.length - (i + 1) ∧ i + 1 ≤ kvs.length ∧ Pv (i + 1) acc' H') y (fun acc' H' q => ⟨_, by omega, rfl, hlt, q⟩) p hr
  · have e : i = kvs.length := by omega
    subst e
    exact .inl ⟨⟨d3, Nat.le_refl _⟩, hd acc H2 p⟩
end
end L2
namespace L2
open PySem PySem.Spec PyProof.Rows
theorem rep_fold (a : Array Nat) : ∀ (n : Nat) (b : Array Nat), ((List.replicate n a).foldl (· ++ ·) b).toList = b.toList ++ (List.replicate n a.toList).flatten
  | 0, b => by simp
  | n + 1, b => by
    rw [List.replicate_succ, List.foldl_cons, rep_fold a n (b ++ a), List.replicate_succ, List.flatten_cons, Array.toList_append, List.append_assoc]
theorem op_mulS {X : Cx} : OpR X (binaryOp .Mult) (fun x y H Q => ∃ (i : Str) (n : Nat), x = .str i ∧ y = .int (n : Int) ∧ 1 ≤ n ∧ n ≤ 100 ∧ i.length = 1 ∧ ∀ z : Str, z.length = n → (∀ c ∈ z.cps.toList, c ∈ i.cps.toList) → Q (.str z) H) := by
  intro pins s σ H x y v u Q I rx ry h
  obtain ⟨i, n, rfl, rfl, h1, h2, hl, q⟩ := h
  obtain ⟨t, rfl⟩ := rx
  obtain ⟨t', rfl⟩ := ry
  have e0 : ∀ k : Nat, ((List.replicate k i.cps).foldl (· ++ ·) #[]).toList = (List.replicate k i.cps.toList).flatten := fun k => by rw [rep_fold]; rfl
  have l1 : i.cps.toList.length = 1 := by rw [Array.length_toList]; exact hl
  have hlen : ∀ k : Nat, ((List.replicate k i.cps).foldl (· ++ ·) #[]).size = k := fun k => by
    rw [← Array.length_toList, e0, len_rep, l1, Nat.mul_one]
  refine PySem.P.mul_str ?_ ?_ ?_ ?_
  · rw [decide_eq_false (by omega), decide_eq_false (by omega)]; rfl
  · intro _ _
    rw [hl]
    have : (1 : Int) ≤ (2 ^ 63 - 1) / (n : Int) := (Int.le_ediv_iff_mul_le (by omega)).mpr (by omega)
    omega
  · intro _ _
    rw [hl, Int.toNat_natCast, Nat.one_mul]
    unfold PySem.Builtin.Str.tooLong
    exact decide_eq_false (by have : sizeLine = sizeLine := rfl; rw [sizeLine_eq]; omega)
  · rw [if_neg (by omega)]
    by_cases hn : n = 1
    · subst hn
      rw [if_pos (by rfl)]
      exact ⟨.str i, H, I, ⟨_, rfl⟩, q i hl fun _ hc => hc⟩
    · rw [if_neg (by
        simp only [Bool.or_eq_true, beq_iff_eq, not_or]
        exact ⟨by omega, by omega⟩)]
      rw [Int.toNat_natCast]
      refine ⟨?_, .str _, H, I.tok _, ⟨_, rfl⟩, q _ (hlen n) fun c hc => ?_⟩
      · show ((List.replicate n i.cps).foldl (· ++ ·) #[]).size ≤ sizeLine
        rw [hlen, sizeLine_eq]; omega
      · have hc' : c ∈ ((List.replicate n i.cps).foldl (· ++ ·) #[]).toList := hc
        rw [e0] at hc'
        obtain ⟨l, hl', hcl⟩ := List.mem_flatten.mp hc'
        rw [(List.mem_replicate.mp hl').2] at hcl
        exact hcl
end L2
namespace L2
open PySem PySem.Spec PyProof.Rows
theorem call_isTK {X : Cx} {K : PySem.W.Frag} (hK : X.K = K := by rfl) : CallR X (.builtin "isinstance") (fun xs H Q => ∃ x t n b, xs = [x, .ty n] ∧ TyOf K H x t ∧ PySem.W.kitOne K t (.type n) = some b ∧ Q (.bl b) H) := by
  subst hK
  exact call_isT
end L2
namespace M33
open PySem L2 PyProof.Rows R
noncomputable abbrev LET : Str := "abcdefghijklmnopqrstuvwxyz"
inductive Th (H : Hp) : V → Prop
  | non : Th H .non
  | bl (b : Bool) : Th H (.bl b)
  | int (i : Int) : Th H (.int i)
  | str (z : Str) (h : z.length ≤ 27) : Th H (.str z)
  | lst {a : Addr} {xs : List V} (e : H a = some (.lst xs)) : Th H (.ref a)
  | tup {a : Addr} {xs : List V} (e : H a = some (.tup xs)) : Th H (.ref a)
theorem Th.same {H H' : Hp} {x : V} (e : Same H H') (h : Th H x) : Th H' x := by
  cases h with
  | non => exact .non
  | bl b => exact .bl b
  | int i => exact .int i
  | str z h => exact .str z h
  | lst h => exact .lst (e _ _ h)
  | tup h => exact .tup (e _ _ h)
noncomputable def isS : V → Bool | .str _ => true | _ => false
theorem Th.kit {K : PySem.W.Frag} {H : Hp} {x : V} (h : Th H x) : ∃ t, TyOf K H x t ∧ PySem.W.kitOne K t (.type "str") = some (isS x) := by
  cases h with
  | non => exact ⟨_, .non, by kernel_rfl⟩
  | bl b => exact ⟨_, .bl b, by kernel_rfl⟩
  | int i => exact ⟨_, .int i, by kernel_rfl⟩
  | str z h => exact ⟨_, .str z, by kernel_rfl⟩
  | lst h => exact ⟨_, .lst h, by kernel_rfl⟩
  | tup h => exact ⟨_, .tup h, by kernel_rfl⟩
noncomputable def nm (z : Str) : Bool := decide (1 ≤ z.length) && decide (z.length ≤ 12) && z.cps.toList.all fun c => decide (c ∈ LET.cps.toList)
noncomputable def nmV : V → Bool | .str z => nm z | _ => false
theorem nm_of {z : Str} (h1 : 1 ≤ z.length) (h2 : z.length ≤ 12) (h : ∀ c ∈ z.cps.toList, c ∈ LET.cps.toList) : nm z = true := by
  unfold nm
  rw [decide_eq_true h1, decide_eq_true h2, List.all_eq_true.mpr fun c hc => decide_eq_true (h c hc)]
  rfl
theorem nm_len {z : Str} (h : nm z = true) : 1 ≤ z.length ∧ z.length ≤ 12 := by
  unfold nm at h
  simp only [Bool.and_eq_true, decide_eq_true_eq] at h
  exact h.1
noncomputable def SameB (d : Addr) (H H' : Hp) : Prop := ∀ b o, b ≠ d → H b = some o → H' b = some o
theorem SameB.of {d : Addr} {H H' : Hp} (h : Same H H') : SameB d H H' := fun b o _ e => h b o e
theorem SameB.upd {d : Addr} {H H' : Hp} {o : HO} (a : SameB d H H') : SameB d H (upd H' d o) := fun c o' n e => by rw [upd_ne n]; exact a c o' n e
noncomputable abbrev Es := List (Str × Bool)
noncomputable def kvE (es : Es) : List (Key × V) := es.map fun e => ((Sum.inr e.1 : Key), V.bl e.2)
noncomputable def look (es : Es) (z : Str) : Option Bool := (es.find? fun e => decide (e.1 = z)).map (·.2)
noncomputable def putE (es : Es) (z : Str) (b : Bool) : Es := if (look es z).isSome then es.map fun e => if e.1 = z then (e.1, b) else e else es ++ [(z, b)]
theorem kvE_val (z : Str) : ∀ es : Es, valV (kvE es) (Sum.inr z : Key) = (look es z).map V.bl
  | [] => rfl
  | e :: es => by
    by_cases h : e.1 = z
    · have h1 : valV (kvE (e :: es)) (Sum.inr z : Key) = some (.bl e.2) := valV_pos (r := kvE es) (p := ((Sum.inr e.1 : Key), V.bl e.2)) (by rw [h])
      rw [h1]
      unfold look
      rw [List.find?_cons, decide_eq_true h]
      rfl
    · have h1 : valV (kvE (e :: es)) (Sum.inr z : Key) = valV (kvE es) (Sum.inr z : Key) := valV_neg (r := kvE es) (p := ((Sum.inr e.1 : Key), V.bl e.2)) (fun q => h (Sum.inr.inj q))
      rw [h1, kvE_val z es]
      unfold look
      rw [List.find?_cons, decide_eq_false h]
theorem kvE_put (es : Es) (z : Str) (b : Bool) : putK (kvE es) (Sum.inr z : Key) (.bl b) = kvE (putE es z b) := by
  unfold putE putK
  rw [valV_any, kvE_val, Option.isSome_map]
  split
  · unfold kvE
    rw [List.map_map, List.map_map]
    apply List.map_congr_left
    intro e _
    by_cases h : e.1 = z
    · simp [h]
    · simp [h]
  · unfold kvE
    rw [List.map_append]; rfl
theorem kvE_len (es : Es) : (kvE es).length = es.length := List.length_map ..
theorem putE_len (es : Es) (z : Str) (b : Bool) : (putE es z b).length ≤ es.length + 1 := by
  unfold putE
  split
  · rw [List.length_map]; omega
  · rw [List.length_append]; exact Nat.le_refl _
theorem putE_keys {es : Es} {z : Str} {b : Bool} (h : (look es z).isSome = true) : (putE es z b).map (·.1) = es.map (·.1) := by
  unfold putE
  rw [if_pos h, List.map_map]
  apply List.map_congr_left
  intro e _
  by_cases q : e.1 = z
  · simp [q]
  · simp [q]
theorem look_mem {es : Es} {z : Str} : (look es z).isSome = true ↔ z ∈ es.map (·.1) := by
  unfold look
  rw [Option.isSome_map, List.find?_isSome, List.mem_map]
  constructor
  · rintro ⟨e, h1, h2⟩
    exact ⟨e, h1, of_decide_eq_true h2⟩
  · rintro ⟨e, h1, h2⟩
    exact ⟨e, h1, decide_eq_true h2⟩
theorem look_of : ∀ {es : Es}, (es.map (·.1)).Nodup → ∀ {e : Str × Bool}, e ∈ es → look es e.1 = some e.2
  | x :: es, nd, e, h => by
    rw [List.map_cons, List.nodup_cons] at nd
    unfold look
    rw [List.find?_cons]
    rcases List.mem_cons.mp h with rfl | h
    · rw [decide_eq_true rfl]; rfl
    · have hne : x.1 ≠ e.1 := fun q => nd.1 (by rw [q]; exact List.mem_map.mpr ⟨e, h, rfl⟩)
      rw [decide_eq_false hne]
      exact look_of nd.2 h
noncomputable def actS (k : Nat) (es : Es) (z : Str) : Option Es :=
  if nm z = false then none else
  if k = 0 then (if look es z = none then some (putE es z true) else none) else
  if k = 1 then (if look es z = some true then some (putE es z false) else none) else
  if k = 2 then (if look es z = some false then some (putE es z true) else none) else
  (if look es z = none then none else some es)
noncomputable def act (k : Nat) (es : Es) : V → Option Es | .str z => actS k es z | _ => none
noncomputable def hasE (es : Es) : V → Bool | .str z => nm z && (look es z).isSome | _ => false
set_option genInjectivity false in
set_option genSizeOf false in
structure Gd (es : Es) (n : Nat) : Prop where
  nms : ∀ z ∈ es.map (·.1), nm z = true
  nd : (es.map (·.1)).Nodup
  len : es.length ≤ n
theorem Gd.act {es es' : Es} {n k : Nat} {x : V} (g : Gd es n) (h : act k es x = some es') : Gd es' (n + 1) := by
  cases x with
  | str z =>
    have h : actS k es z = some es' := h
    unfold actS at h
    have keep : (look es z).isSome = true → ∀ b, Gd (putE es z b) (n + 1) := fun hs b =>
      ⟨by rw [putE_keys hs]; exact g.nms, by rw [putE_keys hs]; exact g.nd, Nat.le_trans (putE_len ..) (Nat.succ_le_succ g.len)⟩
    split at h
    · cases h
    · rename_i hz
      have hz : nm z = true := by simpa using hz
      split at h
      · split at h
        · rename_i hl
          cases h
          have hn : ¬ z ∈ es.map (·.1) := fun q => by rw [← look_mem, hl] at q; cases q
          have e : putE es z true = es ++ [(z, true)] := by unfold putE; rw [hl]; rfl
          refine ⟨fun y hy => ?_, ?_, Nat.le_trans (putE_len ..) (Nat.succ_le_succ g.len)⟩
          · rw [e, List.map_append] at hy
            rcases List.mem_append.mp hy with hy | hy
            · exact g.nms y hy
            · have : y = z := by simpa using hy
              rw [this]; exact hz
          · rw [e, List.map_append]
            exact nd_snoc g.nd hn
        · cases h
      · split at h
        · split at h
          · rename_i hl
            cases h
            exact keep (by rw [hl]; rfl) _
          · cases h
        · split at h
          · split at h
            · rename_i hl
              cases h
              exact keep (by rw [hl]; rfl) _
            · cases h
          · split at h
            · cases h
            · cases h
              exact ⟨g.nms, g.nd, Nat.le_succ_of_le g.len⟩
  | _ => cases h
end M33
namespace Rk33_guests
open PySem L2 PyProof.Rows R K3 M26 M12 M24 M33
noncomputable def top (i : Nat) : Stmt := PySem.Challenge.pw_rollcall_k33_guests.main.body.getD i (.Pass ⟨0, 0, 0, 0⟩)
noncomputable abbrev sCell : Stmt := top 31
noncomputable abbrev sNa : Stmt := top 32
noncomputable abbrev sTg : Stmt := top 33
noncomputable abbrev sDo : Stmt := top 34
noncomputable abbrev sSd : Stmt := top 35
noncomputable abbrev sRf : Stmt := top 36
noncomputable abbrev sDu : Stmt := top 37
noncomputable abbrev sLaw : Stmt := top 38
noncomputable abbrev sNm : Stmt := top 22
noncomputable abbrev sIni : Stmt := inClass (top 29) 0
noncomputable abbrev sEn : Stmt := inClass (top 29) 1
noncomputable abbrev sLe : Stmt := inClass (top 29) 2
noncomputable abbrev sBa : Stmt := inClass (top 29) 3
noncomputable abbrev sHg : Stmt := inClass (top 29) 4
noncomputable abbrev sGu : Stmt := inClass (top 29) 11
noncomputable abbrev sHc : Stmt := inClass (top 29) 13
set_option genInjectivity false in
set_option genSizeOf false in
structure BiR (mg : Str → Option Value) : Prop where
  len : mg "len" = none
  range : mg "range" = none
  min : mg "min" = none
  max : mg "max" = none
  isin : mg "isinstance" = none
  t_bool : mg "bool" = none
  t_list : mg "list" = none
  t_int : mg "int" = none
  t_str : mg "str" = none
  t_tuple : mg "tuple" = none
  sorted : mg "sorted" = none
  sum : mg "sum" = none
  enumerate : mg "enumerate" = none
  all : mg "all" = none
  t_ValueError : mg "ValueError" = none
section
variable {P : Program} {w : World} {K : PySem.W.Frag} {mg : Str → Option Value} {base : Heap}
seal PA PE PS PSs PT PW
theorem cutK {t r : TS} {σ : L2.St} {H : Hp} {D : Ends} (h : ∀ k : L2.St → Hp → Prop, (∀ σ' H', r D σ' H' → k σ' H') → t { D with nx := k } σ H) : tSeq t r D σ H := h (r D) fun _ _ x => x
theorem if_no {t : TT} {σ : L2.St} {H : Hp} {a r : TS} {D : Ends} (P : Hp → Prop) (h : ∀ Q : Bool → Hp → Prop, (∀ H', P H' → Q false H') → t σ H Q) (hr : ∀ H', P H' → r D σ H') : tSeq (tIfS t a tNext) r D σ H :=
  h _ fun H' p => iteF (hr H' p)
theorem if_ex {t : TT} {σ : L2.St} {H : Hp} {a r : TS} {D : Ends} (b : Bool) (h : ∀ Q : Bool → Hp → Prop, Q b H → t σ H Q) (ht : b = true → a { D with nx := r D } σ H) (hf : b = false → r D σ H) : tSeq (tIfS t a tNext) r D σ H :=
  h _ (by cases b with | true => exact iteT (ht rfl) | false => exact iteF (hf rfl))
noncomputable abbrev sIr : Stmt := top 2
noncomputable abbrev sIa : Stmt := top 3
noncomputable abbrev sPa : Stmt := top 4
noncomputable abbrev sSa : Stmt := top 5
noncomputable abbrev sOa : Stmt := top 6
noncomputable abbrev sRo : Stmt := top 7
noncomputable abbrev sCard : Stmt := top 8
theorem v_str (x y : Str) : decide (V.str x = V.str y) = decide (x = y) := decide_eq_decide.mpr ⟨fun h => V.str.inj h, fun h => by rw [h]⟩
noncomputable def spNo : Sp := fun _ _ _ _ => False
theorem scIr : FnScope ["table"] ["table"] (defScope sIr) := ⟨rfl, rfl, rfl, by decide +kernel, rfl, by decide +kernel, by decide +kernel⟩
theorem scIa : FnScope ["table", "name"] ["table", "name"] (defScope sIa) := ⟨rfl, rfl, rfl, by decide +kernel, rfl, by decide +kernel, by decide +kernel⟩
theorem scPa : FnScope ["table", "name"] ["table", "name"] (defScope sPa) := ⟨rfl, rfl, rfl, by decide +kernel, rfl, by decide +kernel, by decide +kernel⟩
theorem scSa : FnScope ["table", "name"] ["table", "name"] (defScope sSa) := ⟨rfl, rfl, rfl, by decide +kernel, rfl, by decide +kernel, by decide +kernel⟩
theorem scOa : FnScope ["table", "name"] ["table", "name"] (defScope sOa) := ⟨rfl, rfl, rfl, by decide +kernel, rfl, by decide +kernel, by decide +kernel⟩
theorem compG_none {tt : TT} {te : TE} {g : TG} {fr : List (Str × Nat)} {n : Nat} {σ : L2.St} {R : Hp → Prop} {D a : Addr} {H1 : Hp} (h : SqL K (upd H1 D (.lst [])) a []) (hd : R (upd H1 D (.lst []))) :
    ∃ W : Nat → Nat → List V → Hp → Prop, (∃ m, W 0 m [] (upd H1 D (.lst []))) ∧ ∀ i m acc H2, W i m acc H2 →
      H2 D = some (.lst acc) ∧ (((Itl K a).stop i H2 ∧ R H2) ∨ (acc.length < sizeLine ∧ (Itl K a).go i H2 ∧ ∀ x H3, (Itl K a).yld i H2 x H3 → g x (nones n ++ slotsC fr σ) H3 fun σ1 H3' => ∃ vs : L2.St, vs.length = n ∧ σ1 = vs ++ slotsC fr σ ∧ tt σ1 H3' fun b H4 =>
        if b = true then te σ1 H4 fun y H5 => H5 D = some (.lst acc) ∧ ∃ m', m' < m ∧ W (i + 1) m' (acc ++ [y]) (upd H5 D (.lst (acc ++ [y]))) else ∃ m', m' < m ∧ W (i + 1) m' acc H4)) :=
  compG_list (xs := []) (fun _ ac H2 => ac = [] ∧ H2 = upd H1 D (.lst [])) ⟨rfl, rfl⟩ (fun i ac H2 _ ⟨e, e2⟩ => by subst e e2; exact ⟨upd_same, by decide, h⟩) (fun i x ac H2 N hx => by cases hx) (fun ac H2 ⟨_, e⟩ => by subst e; exact hd)
inductive I_spRo (vs : List V) (H : Hp) (Q : VK) : Prop
  | mk (a : Addr) (nm : Str) (q_1 : vs = [.ref a, .str nm]) (q_2 : H a = some (.lst [])) (q_3 : ∀ (l : Addr) (H' : Hp), Same H H' → H' l = some (.lst []) → Q (.ref l) H')
noncomputable def spRo : Sp := fun vs H Q _ => I_spRo  vs H Q
theorem scRo : FnScope ["turns", "name", "rows", "turn", "number", "table"] ["turns", "name"] (defScope sRo) := ⟨rfl, rfl, rfl, by decide +kernel, rfl, by decide +kernel, by decide +kernel⟩
theorem okRo (d : Df K mg "rows_of" sRo ["turns", "name"]) (dIa : Df K mg "is_at" sIa ["table", "name"]) (T : BiR mg) : FnOk P w K mg base CX0 2 d.f d.fd ["turns", "name"] spRo := by
  have GIa : FnOk P w K mg base CX0 1 dIa.f dIa.fd ["table", "name"] spNo := dIa.F.ok scIa (fun _ _ _ _ h => h.elim) (fun _ _ _ _ _ _ _ _ _ h => h.elim)
  refine d.F.ok scRo (fun vs H Q E h => ?_) (fun cdv A outer s H vs Q E hr h => ?_)
  · obtain ⟨_, _, rfl, _⟩ := h
    rfl
  · obtain ⟨a, nm, rfl, ha, q⟩ := h
    refine ⟨_, (pss_cons (ps_set (i := 2) scRo.nd rfl (by first | exact Or.inl rfl | exact Or.inr rfl) (pe_lst pa_nil))
      (pss_cons (ps_for PassesOwn.never rfl (pi_list (pv 0)) (pg_name (i := 3) scRo.nd rfl (by first | exact Or.inl rfl | exact Or.inr rfl)) (pss_one (ps_for PassesOwn.never rfl (pi_enum (by rfl) T.enumerate (pa_cons (pv 3) pa_nil)) (pg_tup rfl (pgs_cons (pg_name (i := 4) scRo.nd rfl (by first | exact Or.inl rfl | exact Or.inr rfl)) (pgs_cons (pg_name (i := 5) scRo.nd rfl (by first | exact Or.inl rfl | exact Or.inr rfl)) pgs_nil))) (pss_one (ps_if (pt_val (pe_call GIa (hr.mono (by decide)) (by rfl) dIa.m dIa.F.kp dIa.b .nil pass0 (pa_cons (pv 5) (pa_cons (pv 1) pa_nil)))) (pss_one (ps_expr (pe_bm PySem.F.plainAttrs_list PySem.F.slot_list_append PySem.F.type_list_append mt_append (pv 2) (pa_cons (pe_tup (pa_cons (pv 4) (pa_cons (pv 5) pa_nil))) pa_nil)))) pss_nil)))))
      (pss_one (ps_ret (pv 2))))), ?_⟩
    try dsimp only [cxOf]
    refine ⟨Nat.zero_le _, fun lr hlr => ?_⟩
    have s1 := same_new (o := .lst []) hlr
    refine ⟨_, rfl, a, rfl, ⟨_, SqL.of (s1 _ _ ha)⟩, for_list (xs := []) (fun j σ H2 => σ = [some (.ref a), some (.str nm), some (.ref lr), none, none, none] ∧ Same H H2 ∧ H2 lr = some (.lst [])) ⟨rfl, s1, upd_same⟩ ?_ ?_ ?_⟩
    · rintro i σ H2 hi ⟨rfl, sH, _⟩
      exact SqL.of (sH _ _ ha)
    · intro i x σ H2 hx
      cases hx
    · rintro σ H2 ⟨rfl, sH, e⟩
      exact ⟨_, rfl, q lr H2 sH e⟩
inductive I_spCard (vs : List V) (H : Hp) (Q : VK) : Prop
  | mk (a : Addr) (nm : Str) (q_1 : vs = [.ref a, .str nm]) (q_2 : H a = some (.lst [])) (q_3 : ∀ (t : Addr) (xs : List V) (H' : Hp), Same H H' → H' t = some (.tup xs) → Q (.ref t) H')
noncomputable def spCard : Sp := fun vs H Q _ => I_spCard  vs H Q
theorem scCard : FnScope ["turns", "name", "rows", "meetings", "points", "sides", "met", "rested", "tables"] ["turns", "name"] (defScope sCard) := ⟨rfl, rfl, rfl, by decide +kernel, rfl, by decide +kernel, by decide +kernel⟩
theorem okCard (d : Df K mg "card" sCard ["turns", "name"]) (dIr : Df K mg "is_rest" sIr ["table"]) (dIa : Df K mg "is_at" sIa ["table", "name"]) (dPa : Df K mg "points_at" sPa ["table", "name"]) (dSa : Df K mg "side_at" sSa ["table", "name"]) (dOa : Df K mg "other_at" sOa ["table", "name"]) (dRo : Df K mg "rows_of" sRo ["turns", "name"]) (T : BiR mg) : FnOk P w K mg base CX0 3 d.f d.fd ["turns", "name"] spCard := by
  have GIr : FnOk P w K mg base CX0 1 dIr.f dIr.fd ["table"] spNo := dIr.F.ok scIr (fun _ _ _ _ h => h.elim) (fun _ _ _ _ _ _ _ _ _ h => h.elim)
  have GPa : FnOk P w K mg base CX0 1 dPa.f dPa.fd ["table", "name"] spNo := dPa.F.ok scPa (fun _ _ _ _ h => h.elim) (fun _ _ _ _ _ _ _ _ _ h => h.elim)
  have GSa : FnOk P w K mg base CX0 1 dSa.f dSa.fd ["table", "name"] spNo := dSa.F.ok scSa (fun _ _ _ _ h => h.elim) (fun _ _ _ _ _ _ _ _ _ h => h.elim)
  have GOa : FnOk P w K mg base CX0 1 dOa.f dOa.fd ["table", "name"] spNo := dOa.F.ok scOa (fun _ _ _ _ h => h.elim) (fun _ _ _ _ _ _ _ _ _ h => h.elim)
  have GRo : FnOk P w K mg base CX0 2 dRo.f dRo.fd ["turns", "name"] spRo := okRo dRo dIa T
  refine d.F.ok scCard (fun vs H Q E h => ?_) (fun cdv A outer s H vs Q E hr h => ?_)
  · obtain ⟨_, _, rfl, _⟩ := h
    rfl
  · obtain ⟨a, nm, rfl, ha, q⟩ := h
    refine ⟨_, (pss_cons (ps_set (i := 2) scCard.nd rfl (by first | exact Or.inl rfl | exact Or.inr rfl) (pe_call GRo (hr.mono (by decide)) (by rfl) dRo.m dRo.F.kp dRo.b .nil pass0 (pa_cons (pv 0) (pa_cons (pv 1) pa_nil))))
      (pss_cons (ps_setCG (i := 3) (xs := ["number", "table"]) (compOkG (fr := [])) rfl scCard.nd rfl (by first | exact Or.inl rfl | exact Or.inr rfl) (pi_list (pv 2)) (fun _ _ _ => (pg_tupK (K := K) (n := 2) rfl (pgs_cons (pg_name (i := 0) (show List.Nodup (["number", "table"] : List Str) by decide +kernel) rfl (Or.inl rfl) (.inr rfl)) (pgs_cons (pg_name (i := 1) (show List.Nodup (["number", "table"] : List Str) by decide +kernel) rfl (Or.inl rfl) (.inr rfl)) pgs_nil)))) (fun _ _ _ => pts_one (pt_not (pt_val (pe_call GIr (hr.mono (by decide)) (by rfl) dIr.m dIr.F.kp dIr.b .nil pass0 (pa_cons (pv 1) pa_nil))))) (fun _ _ _ => (pe_tup (pa_cons (pv 0) (pa_cons (pv 1) pa_nil)))))
      (pss_cons (ps_set (i := 4) scCard.nd rfl (by first | exact Or.inl rfl | exact Or.inr rfl) (pe_callB (call_sumI rfl) (by rfl) T.sum boot_sum (pa_cons (pe_compG (xs := ["number", "table"]) (compOkG (fr := [("name", 1)])) rfl (pi_list (pv 2)) (fun _ _ _ => (pg_tupK (K := K) (n := 2) rfl (pgs_cons (pg_name (i := 0) (show List.Nodup (["number", "table", "name"] : List Str) by decide +kernel) rfl (Or.inl rfl) (.inr rfl)) (pgs_cons (pg_name (i := 1) (show List.Nodup (["number", "table", "name"] : List Str) by decide +kernel) rfl (Or.inl rfl) (.inr rfl)) pgs_nil)))) (fun _ _ _ => pts_nil) (fun _ _ _ => (pe_call GPa (hr.mono (by decide)) (by rfl) dPa.m dPa.F.kp dPa.b .nil pass0 (pa_cons (pv 1) (pa_cons (pv 2) pa_nil))))) pa_nil)))
      (pss_cons (ps_set (i := 5) scCard.nd rfl (by first | exact Or.inl rfl | exact Or.inr rfl) (pe_bm PySem.F.plainAttrs_str PySem.F.slot_str_join PySem.F.type_str_join mt_join pe_str (pa_cons (pe_compG (xs := ["number", "table"]) (compOkG (fr := [("name", 1)])) rfl (pi_list (pv 3)) (fun _ _ _ => (pg_tupK (K := K) (n := 2) rfl (pgs_cons (pg_name (i := 0) (show List.Nodup (["number", "table", "name"] : List Str) by decide +kernel) rfl (Or.inl rfl) (.inr rfl)) (pgs_cons (pg_name (i := 1) (show List.Nodup (["number", "table", "name"] : List Str) by decide +kernel) rfl (Or.inl rfl) (.inr rfl)) pgs_nil)))) (fun _ _ _ => pts_nil) (fun _ _ _ => (pe_call GSa (hr.mono (by decide)) (by rfl) dSa.m dSa.F.kp dSa.b .nil pass0 (pa_cons (pv 1) (pa_cons (pv 2) pa_nil))))) pa_nil)))
      (pss_cons (ps_set (i := 6) scCard.nd rfl (by first | exact Or.inl rfl | exact Or.inr rfl) (pe_callTy call_tuple_of (by rfl) T.t_tuple boot_tuple (pa_cons (pe_compG (xs := ["number", "table"]) (compOkG (fr := [("name", 1)])) rfl (pi_list (pv 3)) (fun _ _ _ => (pg_tupK (K := K) (n := 2) rfl (pgs_cons (pg_name (i := 0) (show List.Nodup (["number", "table", "name"] : List Str) by decide +kernel) rfl (Or.inl rfl) (.inr rfl)) (pgs_cons (pg_name (i := 1) (show List.Nodup (["number", "table", "name"] : List Str) by decide +kernel) rfl (Or.inl rfl) (.inr rfl)) pgs_nil)))) (fun _ _ _ => pts_nil) (fun _ _ _ => (pe_call GOa (hr.mono (by decide)) (by rfl) dOa.m dOa.F.kp dOa.b .nil pass0 (pa_cons (pv 1) (pa_cons (pv 2) pa_nil))))) pa_nil)))
      (pss_cons (ps_set (i := 7) scCard.nd rfl (by first | exact Or.inl rfl | exact Or.inr rfl) (pe_cmpR op_lt (pe_callB call_len_seq (by rfl) T.len PySem.boot_len (pa_cons (pv 3) pa_nil)) (pe_callB call_len_seq (by rfl) T.len PySem.boot_len (pa_cons (pv 2) pa_nil)) (nomark _)))
      (pss_cons (ps_set (i := 8) scCard.nd rfl (by first | exact Or.inl rfl | exact Or.inr rfl) (pe_callTy call_tuple_of (by rfl) T.t_tuple boot_tuple (pa_cons (pe_compG (xs := ["number", "table"]) (compOkG (fr := [])) rfl (pi_list (pv 3)) (fun _ _ _ => (pg_tupK (K := K) (n := 2) rfl (pgs_cons (pg_name (i := 0) (show List.Nodup (["number", "table"] : List Str) by decide +kernel) rfl (Or.inl rfl) (.inr rfl)) (pgs_cons (pg_name (i := 1) (show List.Nodup (["number", "table"] : List Str) by decide +kernel) rfl (Or.inl rfl) (.inr rfl)) pgs_nil)))) (fun _ _ _ => pts_nil) (fun _ _ _ => (pv 0))) pa_nil)))
      (pss_one (ps_ret (pe_tup (pa_cons (pv 1) (pa_cons (pv 4) (pa_cons (pv 5) (pa_cons (pv 6) (pa_cons (pv 7) (pa_cons (pv 8) pa_nil)))))))))))))))), ?_⟩
    try dsimp only [cxOf]
    refine ⟨_, rfl, _, rfl, a, nm, rfl, ha, fun lr H1 s1 has => ?_⟩
    refine ⟨_, rfl, lr, rfl, ⟨_, SqL.of has⟩, fun D hD => compG_none (SqL.of (same_new hD _ _ has)) ?_⟩
    have s2 := same_new (o := .lst []) hD
    have S2 := s1.trans s2
    have d2 : upd H1 D (.lst []) D = some (.lst []) := upd_same
    have has2 := s2 _ _ has
    generalize upd H1 D (.lst []) = H2 at *
    clear s1 s2 hD
    refine ⟨_, rfl, lr, rfl, ⟨_, SqL.of has2⟩, fun E1 hE1 => compG_none (SqL.of (same_new hE1 _ _ has2)) ?_⟩
    have s3 := same_new (o := .lst []) hE1
    have S3 := S2.trans s3
    have d3 := s3 _ _ d2
    have has3 := s3 _ _ has2
    have e1 : upd H2 E1 (.lst []) E1 = some (.lst []) := upd_same
    generalize upd H2 E1 (.lst []) = H3 at *
    clear s3 hE1 S2 d2 has2
    refine ⟨E1, [], rfl, SqL.of e1, ?_⟩
    refine ⟨rfl, _, rfl, D, rfl, ⟨_, SqL.of d3⟩, fun E2 hE2 => compG_none (SqL.of (same_new hE2 _ _ d3)) ?_⟩
    have s4 := same_new (o := .lst []) hE2
    have S4 := S3.trans s4
    have d4 := s4 _ _ d3
    have has4 := s4 _ _ has3
    have e2 : upd H3 E2 (.lst []) E2 = some (.lst []) := upd_same
    generalize upd H3 E2 (.lst []) = H4 at *
    clear s4 hE2 S3 d3 has3
    refine ⟨_, E2, [], rfl, rfl, SqL.of e2, (by decide +kernel), ?_⟩
    refine ⟨_, rfl, D, rfl, ⟨_, SqL.of d4⟩, fun E3 hE3 => compG_none (SqL.of (same_new hE3 _ _ d4)) ?_⟩
    have s5 := same_new (o := .lst []) hE3
    have S5 := S4.trans s5
    have d5 := s5 _ _ d4
    have has5 := s5 _ _ has4
    have e3 : upd H4 E3 (.lst []) E3 = some (.lst []) := upd_same
    generalize upd H4 E3 (.lst []) = H5 at *
    clear s5 hE3 S4 d4 has4
    refine ⟨E3, _, rfl, .inl ⟨SqL.of e3, fun m hm => ?_⟩⟩
    have s6 := same_new (o := .tup []) hm
    have S6 := S5.trans s6
    have d6 := s6 _ _ d5
    have has6 := s6 _ _ has5
    generalize upd H5 m (.tup []) = H6 at *
    clear s6 S5 d5 has5
    refine ⟨_, rfl, D, _, rfl, .inl (SqL.of d6), _, rfl, lr, _, rfl, .inl (SqL.of has6), _, _, rfl, rfl, ?_⟩
    refine ⟨_, rfl, D, rfl, ⟨_, SqL.of d6⟩, fun E4 hE4 => compG_none (SqL.of (same_new hE4 _ _ d6)) ?_⟩
    have s7 := same_new (o := .lst []) hE4
    have e4 : upd H6 E4 (.lst []) E4 = some (.lst []) := upd_same
    refine ⟨E4, _, rfl, .inl ⟨SqL.of e4, fun tb htb => ?_⟩⟩
    refine ⟨_, rfl, _, rfl, _, rfl, _, rfl, _, rfl, _, rfl, (by show 6 ≤ sizeLine; decide), fun t htt => ?_⟩
    exact q t _ _ (((S6.trans s7).trans (same_new htb)).trans (same_new htt)) upd_same
end
set_option genInjectivity false in
set_option genSizeOf false in
structure TxH (K : PySem.W.Frag) (mg : Str → Option Value) (C : Addr) : Prop where
  cl : Cls K C
  n1 : NoAttr K C "entered"
  n2 : NoAttr K C "played"
  n3 : NoAttr K C "grounds"
  mgC : mg "House" = some (.ref C)
set_option genInjectivity false in
set_option genSizeOf false in
structure Xc (K : PySem.W.Frag) (mg : Str → Option Value) (x : Str) where
  C : Addr
  ex : PySem.W.excIn K C bmVE "ValueError.__new__" = true
  m : mg x = some (.ref C)
set_option genInjectivity false in
set_option genSizeOf false in
structure Oc (K : PySem.W.Frag) (mg : Str → Option Value) (x : Str) (N G : Addr) where
  C : Addr
  m : mg x = some (.ref C)
  noN : PySem.W.kitOne K (.ref N) (.ref C) = some false
  noG : PySem.W.kitOne K (.ref G) (.ref C) = some false
set_option genInjectivity false in
set_option genSizeOf false in
structure Xs (K : PySem.W.Frag) (mg : Str → Option Value) where
  xN : Xc K mg "NoName"
  xG : Xc K mg "NoGuest"
  xR : Xc K mg "RollError"
  nR : subK K xN.C xR.C = true
  gR : subK K xG.C xR.C = true
  nn : subK K xN.C xN.C = true
  gn : subK K xG.C xN.C = false
  gg : subK K xG.C xG.C = true
  cN : XC K xN.C
  cG : XC K xG.C
  kNN : PySem.W.kitOne K (.ref xN.C) (.ref xN.C) = some true
  kNG : PySem.W.kitOne K (.ref xN.C) (.ref xG.C) = some false
  kGN : PySem.W.kitOne K (.ref xG.C) (.ref xN.C) = some false
  kGG : PySem.W.kitOne K (.ref xG.C) (.ref xG.C) = some true
  kNV : PySem.W.kitOne K (.ref xN.C) (.type "ValueError") = some true
  kGV : PySem.W.kitOne K (.ref xG.C) (.type "ValueError") = some true
  oT : Oc K mg "NoTable" xN.C xG.C
  oF : Oc K mg "TooFew" xN.C xG.C
set_option genInjectivity false in
set_option genSizeOf false in
structure Pg (K : PySem.W.Frag) (mg : Str → Option Value) (C : Addr) where
  T : BiR mg
  W : TxH K mg C
  X : Xs K mg
  tL : Tok
  tM : Tok
  gL : mg "LETTERS" = some (.str LET tL)
  gM : mg "MOST_LETTERS" = some (.int 12 tM)
  dNm : Df K mg "is_name" sNm ["thing"]
  dIr : Df K mg "is_rest" sIr ["table"]
  dIa : Df K mg "is_at" sIa ["table", "name"]
  dPa : Df K mg "points_at" sPa ["table", "name"]
  dSa : Df K mg "side_at" sSa ["table", "name"]
  dOa : Df K mg "other_at" sOa ["table", "name"]
  dRo : Df K mg "rows_of" sRo ["turns", "name"]
  dCa : Df K mg "card" sCard ["turns", "name"]
  mCa : mg "card_cards" = some (.ref dCa.f)
  dI : Di K C "House.__init__" sIni ["self"]
  dEn : Dm K C "enter" "House.enter" sEn ["self", "name"]
  dLe : Dm K C "leave" "House.leave" sLe ["self", "name"]
  dBa : Dm K C "back" "House.back" sBa ["self", "name"]
  dHg : Dm K C "has_guest" "House.has_guest" sHg ["self", "thing"]
  dGu : Dm K C "guests" "House.guests" sGu ["self"]
  dHc : Dm K C "card" "House.card" sHc ["self", "name"]
section
variable {P : Program} {w : World} {K : PySem.W.Frag} {mg : Str → Option Value} {base : Heap} {C : Addr}
seal PA PE PS PSs PT PW
inductive I_spName (vs : List V) (H : Hp) (Q : VK) : Prop
  | mk (x : _) (q_1 : vs = [x]) (q_2 : Th H x) (q_3 : ∀ H', Same H H' → Q (.bl (nmV x)) H')
noncomputable def spName : Sp := fun vs H Q _ => I_spName  vs H Q
theorem scName : FnScope ["thing"] ["thing"] (defScope sNm) := ⟨rfl, rfl, rfl, by decide +kernel, rfl, by decide +kernel, by decide +kernel⟩
theorem okName (G : Pg K mg C) : FnOk P w K mg base CX0 1 G.dNm.f G.dNm.fd ["thing"] spName := by
  refine G.dNm.F.ok scName (fun vs H Q E h => ?_) (fun cdv A outer s H vs Q E hr h => ?_)
  · obtain ⟨_, rfl, _⟩ := h
    rfl
  · obtain ⟨x, rfl, hx, q⟩ := h
    obtain ⟨ty, t1, ks⟩ := hx.kit (K := K)
    refine ⟨_, (pss_cons (ps_if (pt_not (pt_val (pe_callB call_isT (by rfl) G.T.isin boot_isinstance (pa_cons (pv 0) (pa_cons (pe_bltn (v := .ty "str") (by rfl) G.T.t_str boot_str rfl) pa_nil))))) (pss_one (ps_ret pe_bl)) pss_nil)
      (pss_cons (ps_if (PW.pt (pw_or (pt_cmpR op_lt (pe_callB call_len_str (by rfl) G.T.len PySem.boot_len (pa_cons (pv 0) pa_nil)) pe_int (nomark _)) (pw_or1 (pt_cmpR op_gt (pe_callB call_len_str (by rfl) G.T.len PySem.boot_len (pa_cons (pv 0) pa_nil)) (pe_glob (v := .int 12) (by rfl) G.gM ⟨_, rfl⟩) (nomark _))))) (pss_one (ps_ret pe_bl)) pss_nil)
      (pss_one (ps_ret (pe_callB (call_allB rfl) (by rfl) G.T.all boot_all (pa_cons (pe_compN (compOkN (fr := [])) rfl (pi_str (pv 0)) (fun _ _ _ => pts_nil) (fun _ _ _ => (pe_cmpR op_in_str (pv 0) (pe_glob (v := .str LET) (by rfl) G.gL ⟨_, rfl⟩) (by rfl)))) pa_nil)))))), ?_⟩
    try dsimp only [cxOf]
    refine ⟨_, rfl, x, ty, _, _, rfl, t1, ks, _, rfl, ite2 (fun hi => ?_) (fun hi => ?_)⟩
    · have e : nmV x = false := by cases hx <;> first | rfl | exact Bool.noConfusion hi
      exact e ▸ q H (Same.refl H)
    · cases hx with
      | str z hz =>
        have hz' : z.length ≤ sizeLine := Nat.le_trans hz (by decide)
        refine ⟨_, rfl, z, rfl, hz', _, _, rfl, rfl, _, rfl, ?_⟩
        refine ite2 (fun h1 => iteT ?_) (fun h1 => ?_)
        · have h1' := of_decide_eq_true h1
          have e : nmV (.str z) = false := by
            show (decide (1 ≤ z.length) && _ && _) = false
            rw [decide_eq_false (by omega), Bool.false_and, Bool.false_and]
          exact e ▸ q H (Same.refl H)
        refine ⟨_, rfl, z, rfl, hz', _, _, rfl, rfl, _, rfl, ?_⟩
        refine ite2 (fun h2 => ?_) (fun h2 => ?_)
        · have h2' := of_decide_eq_true h2
          have e : nmV (.str z) = false := by
            show (_ && decide (z.length ≤ 12) && _) = false
            have e12 : decide (z.length ≤ 12) = false := decide_eq_false (by omega)
            rw [e12, Bool.and_false, Bool.false_and]
          exact e ▸ q H (Same.refl H)
        have l1 : ¬ (z.length : Int) < 1 := fun h => h1 (decide_eq_true h)
        have l2 : ¬ (12 : Int) < z.length := fun h => h2 (decide_eq_true h)
        refine ⟨_, rfl, z, rfl, fun D hD => compN_str (fun i acc H2 => H2 D = some (.lst acc) ∧ Same H H2 ∧ acc.length = i ∧ ∃ bs : List Bool, acc = bs.map V.bl ∧ bs = (z.cps.toList.take i).map fun c => decide (c ∈ LET.cps.toList))
          ⟨upd_same, same_new hD, rfl, [], rfl, rfl⟩ ?_ ?_ ?_⟩
        · rintro i acc H2 hi ⟨d1, _, d2, _⟩
          refine ⟨d1, small1000 ?_⟩
          have : z.cps.size = z.length := rfl
          omega
        · rintro i c acc H2 N hc hN ⟨d1, s2, d2, bs, rfl, e⟩
          refine ⟨_, rfl, _, _, rfl, rfl, d1, hN _ _ ⟨upd_same, same_upd s2 hD, by rw [List.length_append, d2]; rfl, bs ++ [decide (c ∈ LET.cps.toList)], ?_, ?_⟩⟩
          · rw [List.map_append, StrLaws.found_one]; rfl
          · have hc' : z.cps.toList[i]? = some c := by simpa using hc
            rw [List.take_add_one, hc', List.map_append, e]; rfl
        · rintro acc H2 ⟨d1, s2, d2, bs, rfl, e⟩
          refine ⟨D, bs, rfl, SqL.of d1, ?_⟩
          have e2 : bs.all id = nmV (.str z) := by
            show bs.all id = (decide (1 ≤ z.length) && decide (z.length ≤ 12) && _)
            rw [decide_eq_true (by omega), decide_eq_true (by omega), Bool.true_and, Bool.true_and, e, List.take_of_length_le (by simp), List.all_map]
            rfl
          exact e2 ▸ q H2 s2
      | _ => exact absurd rfl hi
noncomputable def fl3 (d p : Addr) : List (Str × V) := [("entered", .ref d), ("played", .ref p), ("grounds", .non)]
set_option genInjectivity false in
set_option genSizeOf false in
structure Hs (C h d p : Addr) (H : Hp) (es : Es) : Prop where
  ins : ∃ dx, H h = some (.ins C dx (fl3 d p))
  dic : H d = some (.dK (kvE es))
  pl : H p = some (.lst [])
  gd : Gd es 100
theorem Hs.same {h d p : Addr} {H H' : Hp} {es : Es} (a : Hs C h d p H es) (s : Same H H') : Hs C h d p H' es := by
  obtain ⟨⟨dx, i⟩, e, l, g⟩ := a
  exact ⟨⟨dx, s _ _ i⟩, s _ _ e, s _ _ l, g⟩
theorem Hs.put {h d p : Addr} {H H' : Hp} {es es' : Es} (a : Hs C h d p H es) (s : SameB d H H') (e' : H' d = some (.dK (kvE es'))) (g' : Gd es' 100) : Hs C h d p H' es' := by
  obtain ⟨⟨dx, i⟩, e, l, g⟩ := a
  exact ⟨⟨dx, s _ _ (fun z => by rw [z, e] at i; cases i) i⟩, e', s _ _ (fun z => by rw [z, e] at l; cases l) l, g'⟩
theorem f_en {d p : Addr} : List.lookup ("entered" : Str) (fl3 d p) = some (.ref d) := lk_hit
theorem f_pl {d p : Addr} : List.lookup ("played" : Str) (fl3 d p) = some (.ref p) := (lk_miss (by decide)).trans lk_hit
inductive I_spHg (C : Addr) (vs : List V) (H : Hp) (Q : VK) : Prop
  | mk (h : _) (d : _) (p : _) (es : _) (x : _) (q_1 : vs = [.ref h, x]) (q_2 : Hs C h d p H es) (q_3 : Th H x) (q_4 : ∀ H', Same H H' → Q (.bl (hasE es x)) H')
noncomputable def spHg (C : Addr) : Sp := fun vs H Q _ => I_spHg C vs H Q
theorem scHg : FnScope ["self", "thing"] ["self", "thing"] (defScope sHg) := ⟨rfl, rfl, rfl, by decide +kernel, rfl, by decide +kernel, by decide +kernel⟩
theorem okHg (G : Pg K mg C) : FnOk P w K mg base CX0 2 G.dHg.f G.dHg.fd ["self", "thing"] (spHg C) := by
  have GNm : FnOk P w K mg base CX0 1 G.dNm.f G.dNm.fd ["thing"] spName := okName G
  refine G.dHg.F.ok scHg (fun vs H Q E h => ?_) (fun cdv A outer s H vs Q E hr h => ?_)
  · obtain ⟨_, _, _, _, _, rfl, _⟩ := h
    rfl
  · obtain ⟨h, d, p, es, x, rfl, hs, hx, q⟩ := h
    have hu := hu_of hr
    refine ⟨_, (pss_one (ps_ret (pe_and (pe_call GNm (hr.mono (by omega)) (by rfl) G.dNm.m G.dNm.F.kp G.dNm.b .nil pass0 (pa_cons (pv 1) pa_nil)) (pe_one (pe_cmp (pc_din hu (pv 1) (pe_fld (pv 0) rfl))))))), ?_⟩
    try dsimp only [cxOf]
    refine ⟨_, rfl, x, rfl, hx, fun H1 s1 => ⟨_, rfl, ?_⟩⟩
    cases hn : nmV x with
    | false =>
      have e : hasE es x = false := by cases x <;> first | rfl | (show (nm _ && _) = false; rw [show nm _ = false from hn]; rfl)
      exact iteF (e ▸ q H1 s1)
    | true =>
      cases x with
      | str z =>
        have hs1 := hs.same s1
        obtain ⟨dx, hi⟩ := hs1.ins
        refine iteT ⟨_, rfl, _, rfl, fld_at hi G.W.cl G.W.n1 f_en ⟨d, _, rfl, DGet.k (k := Sum.inr z) hs1.dic, ?_⟩⟩
        rw [kvE_val, Option.isSome_map]
        have e : hasE es (.str z) = (look es z).isSome := by
          show (nm z && _) = _
          rw [show nm z = true from hn, Bool.true_and]
        exact e ▸ q H1 s1
      | _ => cases hn
inductive I_spAct (C : Addr) (k : Nat) (N : Addr) (vs : List V) (H : Hp) (Q : VK) (E : XK) : Prop
  | mk (h : _) (d : _) (p : _) (es : _) (x : _) (q_1 : vs = [.ref h, x]) (q_2 : Hs C h d p H es) (q_3 : Th H x) (q_4 : (∀ es', act k es x = some es' → ∀ H', SameB d H H' → H' d = some (.dK (kvE es')) → Q .non H')) (q_5 : (act k es x = none → ∀ H', Same H H' → E (.ref N) none H'))
noncomputable def spAct (C : Addr) (k : Nat) (N : Addr) : Sp := fun vs H Q E => I_spAct C k N vs H Q E
theorem scEn : FnScope ["self", "name"] ["self", "name"] (defScope sEn) := ⟨rfl, rfl, rfl, by decide +kernel, rfl, by decide +kernel, by decide +kernel⟩
theorem okEn (G : Pg K mg C) : FnOk P w K mg base (CXE P w) 2 G.dEn.f G.dEn.fd ["self", "name"] (spAct C 0 G.X.xN.C) := by
  have GNm : FnOk P w K mg base CX0 1 G.dNm.f G.dNm.fd ["thing"] spName := okName G
  refine G.dEn.F.okE scEn (fun vs H Q E h => ?_) (fun cdv A outer s H vs Q E hr h => ?_)
  · obtain ⟨_, _, _, _, _, rfl, _⟩ := h
    rfl
  · obtain ⟨h, d, p, es, x, rfl, hs, hx, qT, qF⟩ := h
    have hu := hu_of hr
    have s1' : (1 : Nat) ≤ sizeLine := by decide
    refine ⟨_, (pss_cons (ps_if (PW.pt (pw_or (pt_not (pt_val (pe_call GNm (hr.mono (by omega)) (by rfl) G.dNm.m G.dNm.F.kp G.dNm.b .nil pass0 (pa_cons (pv 1) pa_nil)))) (pw_or1 (pt_cmp (pc_din hu (pv 1) (pe_fld (pv 0) rfl)))))) (pss_one (ps_raise rfl G.X.xN.ex (by rfl) G.X.xN.m (pa_cons pe_str pa_nil) raises_out)) pss_nil)
      (pss_one (ps_dput hu (pe_fld (pv 0) rfl) (pv 1) pe_bl rfl))), ?_⟩
    try dsimp only [cxOf]
    refine ⟨_, rfl, x, rfl, hx, fun H1 s1 => ⟨_, rfl, ?_⟩⟩
    cases hn : nmV x with
    | false =>
      have e : act 0 es x = none := by cases x <;> first | rfl | (show actS _ _ _ = none; unfold actS; rw [if_pos (show nm _ = false from hn)])
      exact iteT (iteT ⟨s1', qF e _ s1⟩)
    | true =>
      cases x with
      | str z =>
        have hz : nm z = true := hn
        have hs1 := hs.same s1
        obtain ⟨dx, hi⟩ := hs1.ins
        have ea : act 0 es (.str z) = if look es z = none then some (putE es z true) else none := by
          show actS _ _ _ = _
          unfold actS
          rw [if_neg (by rw [hz]; exact Bool.noConfusion), if_pos rfl]
        refine iteF ⟨_, rfl, _, rfl, fld_at hi G.W.cl G.W.n1 f_en ⟨d, _, rfl, DGet.k (k := Sum.inr z) hs1.dic, _, rfl, ?_⟩⟩
        rw [kvE_val, Option.isSome_map]
        cases hl : look es z with
        | some b =>
          rw [hl, if_neg (fun q => nomatch q)] at ea
          exact iteT ⟨s1', qF ea _ s1⟩
        | none =>
          rw [hl, if_pos rfl] at ea
          refine iteF ⟨_, rfl, fld_at hi G.W.cl G.W.n1 f_en ⟨_, rfl, d, _, rfl, DPut.k (k := Sum.inr z) hs1.dic (by rw [kvE_len]; exact small1000 (by have := hs.gd.len; omega)), ?_⟩⟩
          refine qT _ ea _ (SameB.of s1).upd ?_
          rw [upd_same, kvE_put]
      | _ => cases hn
end
section
variable {P : Program} {w : World} {K : PySem.W.Frag} {mg : Str → Option Value} {base : Heap} {C : Addr}
seal PA PE PS PSs PT PW
theorem scLe : FnScope ["self", "name"] ["self", "name"] (defScope sLe) := ⟨rfl, rfl, rfl, by decide +kernel, rfl, by decide +kernel, by decide +kernel⟩
theorem okLe (G : Pg K mg C) : FnOk P w K mg base (CXE P w) 3 G.dLe.f G.dLe.fd ["self", "name"] (spAct C 1 G.X.xG.C) := by
  have GHg : FnOk P w K mg base CX0 2 G.dHg.f G.dHg.fd ["self", "thing"] (spHg C) := okHg G
  refine G.dLe.F.okE scLe (fun vs H Q E h => ?_) (fun cdv A outer s H vs Q E hr h => ?_)
  · obtain ⟨_, _, _, _, _, rfl, _⟩ := h
    rfl
  · obtain ⟨h, d, p, es, x, rfl, hs, hx, qT, qF⟩ := h
    have hu := hu_of hr
    have s1' : (1 : Nat) ≤ sizeLine := by decide
    obtain ⟨dx0, hi0⟩ := hs.ins
    refine ⟨_, (pss_cons (ps_if (PW.pt (pw_or (pt_not (pt_val (pe_meth (pv 0) G.W.cl G.dHg.m GHg (hr.mono (by omega)) G.dHg.b .nil pass0 (pa_cons (pv 1) pa_nil)))) (pw_or1 (pt_not (pt_val (pe_dget hu (pe_fld (pv 0) rfl) (pv 1) (fun _ _ => rfl))))))) (pss_one (ps_raise rfl G.X.xG.ex (by rfl) G.X.xG.m (pa_cons pe_str pa_nil) raises_out)) pss_nil)
      (pss_one (ps_dput hu (pe_fld (pv 0) rfl) (pv 1) pe_bl rfl))), ?_⟩
    try dsimp only [cxOf]
    refine ⟨_, rfl, h, dx0, _, rfl, hi0, rfl, _, rfl, h, d, p, es, x, rfl, hs, hx, fun H1 s1 => ⟨_, rfl, ?_⟩⟩
    cases hn : hasE es x with
    | false =>
      have e : act 1 es x = none := by
        cases x with
        | str z =>
          have hn : (nm z && (look es z).isSome) = false := hn
          show actS _ _ _ = none
          unfold actS
          cases hz : nm z with
          | false => rw [if_pos rfl]
          | true =>
            rw [hz, Bool.true_and] at hn
            have hl : look es z = none := by cases q : look es z <;> first | rfl | (rw [q] at hn; cases hn)
            rw [if_neg (by decide), if_neg (by decide), hl]
            rfl
        | _ => rfl
      exact iteT (iteT ⟨s1', qF e _ s1⟩)
    | true =>
      cases x with
      | str z =>
        have hn : (nm z && (look es z).isSome) = true := hn
        rw [Bool.and_eq_true] at hn
        obtain ⟨hz, hso⟩ := hn
        have hs1 := hs.same s1
        obtain ⟨dx, hi⟩ := hs1.ins
        have ea : act 1 es (.str z) = if look es z = some true then some (putE es z false) else none := by
          show actS _ _ _ = _
          unfold actS
          rw [if_neg (by rw [hz]; exact Bool.noConfusion)]
          rfl
        obtain ⟨b, hl⟩ := Option.isSome_iff_exists.mp hso
        refine iteF ⟨_, rfl, fld_at hi G.W.cl G.W.n1 f_en ⟨_, rfl, d, .bl b, rfl, (by have := DGet.k (k := Sum.inr z) hs1.dic; rw [kvE_val, hl] at this; exact this), _, rfl, ?_⟩⟩
        cases b with
        | false =>
          rw [hl, if_neg (by decide)] at ea
          exact iteT ⟨s1', qF ea _ s1⟩
        | true =>
          rw [hl, if_pos rfl] at ea
          refine iteF ⟨_, rfl, fld_at hi G.W.cl G.W.n1 f_en ⟨_, rfl, d, _, rfl, DPut.k (k := Sum.inr z) hs1.dic (by rw [kvE_len]; exact small1000 (by have := hs.gd.len; omega)), ?_⟩⟩
          refine qT _ ea _ (SameB.of s1).upd ?_
          rw [upd_same, kvE_put]
      | _ => cases hn
theorem scBa : FnScope ["self", "name"] ["self", "name"] (defScope sBa) := ⟨rfl, rfl, rfl, by decide +kernel, rfl, by decide +kernel, by decide +kernel⟩
theorem okBa (G : Pg K mg C) : FnOk P w K mg base (CXE P w) 3 G.dBa.f G.dBa.fd ["self", "name"] (spAct C 2 G.X.xG.C) := by
  have GHg : FnOk P w K mg base CX0 2 G.dHg.f G.dHg.fd ["self", "thing"] (spHg C) := okHg G
  refine G.dBa.F.okE scBa (fun vs H Q E h => ?_) (fun cdv A outer s H vs Q E hr h => ?_)
  · obtain ⟨_, _, _, _, _, rfl, _⟩ := h
    rfl
  · obtain ⟨h, d, p, es, x, rfl, hs, hx, qT, qF⟩ := h
    have hu := hu_of hr
    have s1' : (1 : Nat) ≤ sizeLine := by decide
    obtain ⟨dx0, hi0⟩ := hs.ins
    refine ⟨_, (pss_cons (ps_if (PW.pt (pw_or (pt_not (pt_val (pe_meth (pv 0) G.W.cl G.dHg.m GHg (hr.mono (by omega)) G.dHg.b .nil pass0 (pa_cons (pv 1) pa_nil)))) (pw_or1 (pt_val (pe_dget hu (pe_fld (pv 0) rfl) (pv 1) (fun _ _ => rfl)))))) (pss_one (ps_raise rfl G.X.xG.ex (by rfl) G.X.xG.m (pa_cons pe_str pa_nil) raises_out)) pss_nil)
      (pss_one (ps_dput hu (pe_fld (pv 0) rfl) (pv 1) pe_bl rfl))), ?_⟩
    try dsimp only [cxOf]
    refine ⟨_, rfl, h, dx0, _, rfl, hi0, rfl, _, rfl, h, d, p, es, x, rfl, hs, hx, fun H1 s1 => ⟨_, rfl, ?_⟩⟩
    cases hn : hasE es x with
    | false =>
      have e : act 2 es x = none := by
        cases x with
        | str z =>
          have hn : (nm z && (look es z).isSome) = false := hn
          show actS _ _ _ = none
          unfold actS
          cases hz : nm z with
          | false => rw [if_pos rfl]
          | true =>
            rw [hz, Bool.true_and] at hn
            have hl : look es z = none := by cases q : look es z <;> first | rfl | (rw [q] at hn; cases hn)
            rw [if_neg (by decide), if_neg (by decide), hl]
            rfl
        | _ => rfl
      exact iteT (iteT ⟨s1', qF e _ s1⟩)
    | true =>
      cases x with
      | str z =>
        have hn : (nm z && (look es z).isSome) = true := hn
        rw [Bool.and_eq_true] at hn
        obtain ⟨hz, hso⟩ := hn
        have hs1 := hs.same s1
        obtain ⟨dx, hi⟩ := hs1.ins
        have ea : act 2 es (.str z) = if look es z = some false then some (putE es z true) else none := by
          show actS _ _ _ = _
          unfold actS
          rw [if_neg (by rw [hz]; exact Bool.noConfusion)]
          rfl
        obtain ⟨b, hl⟩ := Option.isSome_iff_exists.mp hso
        refine iteF ⟨_, rfl, fld_at hi G.W.cl G.W.n1 f_en ⟨_, rfl, d, .bl b, rfl, (by have := DGet.k (k := Sum.inr z) hs1.dic; rw [kvE_val, hl] at this; exact this), _, rfl, ?_⟩⟩
        cases b with
        | true =>
          rw [hl, if_neg (by decide)] at ea
          exact iteT ⟨s1', qF ea _ s1⟩
        | false =>
          rw [hl, if_pos rfl] at ea
          refine iteF ⟨_, rfl, fld_at hi G.W.cl G.W.n1 f_en ⟨_, rfl, d, _, rfl, DPut.k (k := Sum.inr z) hs1.dic (by rw [kvE_len]; exact small1000 (by have := hs.gd.len; omega)), ?_⟩⟩
          refine qT _ ea _ (SameB.of s1).upd ?_
          rw [upd_same, kvE_put]
      | _ => cases hn
inductive I_spHc (C : Addr) (N : Addr) (vs : List V) (H : Hp) (Q : VK) (E : XK) : Prop
  | mk (h : _) (d : _) (p : _) (es : _) (x : _) (q_1 : vs = [.ref h, x]) (q_2 : Hs C h d p H es) (q_3 : Th H x) (q_4 : (hasE es x = true → ∀ (t : Addr) (xs : List V) H', Same H H' → H' t = some (.tup xs) → Q (.ref t) H')) (q_5 : (hasE es x = false → ∀ H', Same H H' → E (.ref N) none H'))
noncomputable def spHc (C : Addr) (N : Addr) : Sp := fun vs H Q E => I_spHc C N vs H Q E
theorem scHc : FnScope ["self", "name"] ["self", "name"] (defScope sHc) := ⟨rfl, rfl, rfl, by decide +kernel, rfl, by decide +kernel, by decide +kernel⟩
theorem okHc (G : Pg K mg C) : FnOk P w K mg base (CXE P w) 6 G.dHc.f G.dHc.fd ["self", "name"] (spHc C G.X.xG.C) := by
  have GHg : FnOk P w K mg base CX0 2 G.dHg.f G.dHg.fd ["self", "thing"] (spHg C) := okHg G
  have GCa := okCard (P := P) (w := w) (base := base) G.dCa G.dIr G.dIa G.dPa G.dSa G.dOa G.dRo G.T
  refine G.dHc.F.okE scHc (fun vs H Q E h => ?_) (fun cdv A outer s H vs Q E hr h => ?_)
  · obtain ⟨_, _, _, _, _, rfl, _⟩ := h
    rfl
  · obtain ⟨h, d, p, es, x, rfl, hs, hx, qT, qF⟩ := h
    have s1' : (1 : Nat) ≤ sizeLine := by decide
    obtain ⟨dx0, hi0⟩ := hs.ins
    refine ⟨_, (pss_cons (ps_if (pt_not (pt_val (pe_meth (pv 0) G.W.cl G.dHg.m GHg (hr.mono (by omega)) G.dHg.b .nil pass0 (pa_cons (pv 1) pa_nil)))) (pss_one (ps_raise rfl G.X.xG.ex (by rfl) G.X.xG.m (pa_cons pe_str pa_nil) raises_out)) pss_nil)
      (pss_one (ps_ret (pe_call GCa (hr.mono (by omega)) (by rfl) G.mCa G.dCa.F.kp G.dCa.b .nil pass0 (pa_cons (pe_fld (pv 0) rfl) (pa_cons (pv 1) pa_nil)))))), ?_⟩
    try dsimp only [cxOf]
    refine ⟨_, rfl, h, dx0, _, rfl, hi0, rfl, _, rfl, h, d, p, es, x, rfl, hs, hx, fun H1 s1 => ⟨_, rfl, ?_⟩⟩
    cases hn : hasE es x with
    | false => exact iteT ⟨s1', qF hn _ s1⟩
    | true =>
      cases x with
      | str z =>
        have hn' : (nm z && (look es z).isSome) = true := hn
        rw [Bool.and_eq_true] at hn'
        have hs1 := hs.same s1
        obtain ⟨dx, hi⟩ := hs1.ins
        refine iteF ⟨_, rfl, fld_at hi G.W.cl G.W.n2 f_pl ⟨_, rfl, p, z, rfl, hs1.pl, fun t xs H2 s2 e => qT hn t _ H2 (s1.trans s2) e⟩⟩
      | _ => cases hn
noncomputable def gE (es : Es) : List PyData := es.map fun e => .tuple [.str e.1, .bool e.2]
noncomputable def GuL (H : Hp) (l : Addr) (es : Es) : Prop := ∃ ts : List Addr, H l = some (.lst (ts.map V.ref)) ∧ Paired (fun t e => H t = some (.tup [.str e.1, .bl e.2])) ts es
inductive I_spGu (C : Addr) (vs : List V) (H : Hp) (Q : VK) : Prop
  | mk (h : _) (d : _) (p : _) (es : _) (q_1 : vs = [.ref h]) (q_2 : Hs C h d p H es) (q_3 : ∀ l H', Same H H' → H l = none → GuL H' l es → Q (.ref l) H')
noncomputable def spGu (C : Addr) : Sp := fun vs H Q _ => I_spGu C vs H Q
theorem scGu : FnScope ["self"] ["self"] (defScope sGu) := ⟨rfl, rfl, rfl, by decide +kernel, rfl, by decide +kernel, by decide +kernel⟩
theorem okGu (G : Pg K mg C) : FnOk P w K mg base CX0 1 G.dGu.f G.dGu.fd ["self"] (spGu C) := by
  refine G.dGu.F.ok scGu (fun vs H Q E h => ?_) (fun cdv A outer s H vs Q E hr h => ?_)
  · obtain ⟨_, _, _, _, rfl, _⟩ := h
    rfl
  · obtain ⟨h, d, p, es, rfl, hs, q⟩ := h
    have hu := hu_of hr
    obtain ⟨dx, hi⟩ := hs.ins
    refine ⟨_, (pss_one (ps_ret (pe_thaw (pe_compG (xs := ["name", "here"]) (compOkG (fr := [])) rfl (pi_ditems (pe_fld (pv 0) rfl)) (fun _ _ _ => (pg_tupK (K := K) (n := 2) rfl (pgs_cons (pg_name (i := 0) (show List.Nodup (["name", "here"] : List Str) by decide +kernel) rfl (Or.inl rfl) (.inr rfl)) (pgs_cons (pg_name (i := 1) (show List.Nodup (["name", "here"] : List Str) by decide +kernel) rfl (Or.inl rfl) (.inr rfl)) pgs_nil)))) (fun _ _ _ => pts_nil) (fun _ _ _ => (pe_tup (pa_cons (pv 0) (pa_cons (pv 1) pa_nil)))))))), ?_⟩
    try dsimp only [cxOf]
    refine ⟨d, _, hs.dic, _, rfl, fld_at hi G.W.cl G.W.n1 f_en ⟨d, _, rfl, hs.dic, fun ob D hD => ?_⟩⟩
    have hD0 : D ≠ d := fun z => by rw [z, upd_same] at hD; cases hD
    have hDn : H D = none := by rw [upd_ne hD0] at hD; exact hD
    refine compG_ditems (fun i ac H2 => H2 D = some (.lst ac) ∧ SameB d H H2 ∧ H2 d = some (.frz ob (.dK (kvE es))) ∧ ∃ ts : List Addr, ac = ts.map V.ref ∧ Paired (fun t e => H2 t = some (.tup [.str e.1, .bl e.2])) ts (es.take i)) ?_ ?_ ?_ ?_
    · exact ⟨upd_same, fun b o n e => by rw [upd_ne (fun z => by rw [z, hDn] at e; cases e), upd_ne n]; exact e, by rw [upd_ne hD0.symm, upd_same], [], rfl, .nil⟩
    · rintro i ac H2 hi2 ⟨h2, _, h3, ts, rfl, pr⟩
      rw [kvE_len] at hi2
      refine ⟨h2, small1000 ?_, h3⟩
      have := Paired.length pr
      have := hs.gd.len
      rw [List.length_map, Paired.length pr, List.length_take]; omega
    · rintro i kv ac H2 pt N hx hN ⟨h2, sb, h3, ts, rfl, pr⟩ hpt
      unfold kvE at hx
      rw [List.getElem?_map] at hx
      obtain ⟨e, he, rfl⟩ := Option.map_eq_some_iff.mp hx
      have s3 := same_new (o := .tup [kV (Sum.inr e.1 : Key), .bl e.2]) hpt
      refine ⟨pt, _, rfl, SqT.of upd_same, rfl, _, _, rfl, _, _, rfl, rfl, [some (.str e.1), some (.bl e.2)], rfl, rfl, ?_⟩
      refine ⟨_, rfl, _, rfl, (by show 2 ≤ sizeLine; decide), fun t ht => ⟨?_, hN _ _ ?_⟩⟩
      · exact same_new ht _ _ (s3 _ _ h2)
      · have s4 := s3.trans (same_new (o := .tup [.str e.1, .bl e.2]) ht)
        have hDt : D ≠ t := ne_of_none (s3 _ _ h2) ht
        have hDd := hD0
        refine ⟨upd_same, fun b o n q => ?_, ?_, ts ++ [t], by rw [List.map_append]; rfl, ?_⟩
        · have q2 := s4 _ _ (sb b o n q)
          rw [upd_ne (fun z => by rw [z, hDn] at q; cases q)]; exact q2
        · rw [upd_ne hDd.symm]; exact s4 _ _ h3
        · rw [List.take_add_one, he]
          have k : ∀ (u : Addr) (xs : List V), upd (upd H2 pt (.tup [kV (Sum.inr e.1 : Key), .bl e.2])) t (.tup [.str e.1, .bl e.2]) u = some (.tup xs) → upd (upd (upd H2 pt (.tup [kV (Sum.inr e.1 : Key), .bl e.2])) t (.tup [.str e.1, .bl e.2])) D (.lst (ts.map V.ref ++ [.ref t])) u = some (.tup xs) := fun u xs z => by
            rw [upd_ne (fun y => ?_)]; exact z
            rw [y, s4 _ _ h2] at z; cases z
          refine pairedApp (Paired.mapP pr fun u e' z => k _ _ (s4 _ _ z)) (.cons (k _ _ upd_same) .nil)
    · rintro ac H2 ⟨h2, sb, h3, ts, rfl, pr⟩
      refine ⟨⟨ob, h3⟩, q D _ (fun b o e => ?_) hDn ⟨ts, by rw [upd_ne hD0]; exact h2, ?_⟩⟩
      · by_cases n : b = d
        · subst n
          rw [upd_same, ← e, hs.dic]
        · rw [upd_ne n]; exact sb b o n e
      · rw [kvE_len, List.take_length] at pr
        exact Paired.mapP pr fun u e' z => by rw [upd_ne (fun y => by rw [y, h3] at z; cases z)]; exact z
inductive I_spIni (C : Addr) (vs : List V) (H : Hp) (Q : VK) : Prop
  | mk (x dx : Addr) (q_1 : vs = [.ref x]) (q_2 : H x = some (.ins C dx [])) (q_3 : ∀ d p H', (∀ b o, b ≠ x → H b = some o → H' b = some o) → H d = none → H p = none → Hs C x d p H' [] → Q .non H')
noncomputable def spIni (C : Addr) : Sp := fun vs H Q _ => I_spIni C vs H Q
theorem scIni : FnScope ["self"] ["self"] (defScope sIni) := ⟨rfl, rfl, rfl, by decide +kernel, rfl, by decide +kernel, by decide +kernel⟩
theorem okIni (G : Pg K mg C) : FnOk P w K mg base CX0 1 G.dI.f G.dI.fd ["self"] (spIni C) := by
  refine G.dI.F.ok scIni (fun vs H Q E h => ?_) (fun cdv A outer s H vs Q E hr h => ?_)
  · obtain ⟨_, _, rfl, _⟩ := h
    rfl
  · obtain ⟨x, dx, rfl, hx, q⟩ := h
    refine ⟨_, (pss_cons (ps_fld (pv 0) pe_dnewK rfl)
      (pss_cons (ps_fld (pv 0) (pe_lst pa_nil) rfl)
      (pss_one (ps_fld (pv 0) pe_non rfl)))), ?_⟩
    try dsimp only [cxOf]
    refine fun d hd => ⟨_, rfl, x, C, dx, [], rfl, (same_new hd _ _ hx), G.W.cl, G.W.n1, (by show 0 < 1000; decide), ?_⟩
    refine ⟨(by show 0 ≤ sizeLine; decide), fun p hp => ⟨_, rfl, x, C, dx, _, rfl, (same_new hp _ _ upd_same), G.W.cl, G.W.n2, (by show 1 < 1000; decide), ?_⟩⟩
    refine ⟨_, rfl, x, C, dx, _, rfl, upd_same, G.W.cl, G.W.n3, (by show 2 < 1000; decide), ?_⟩
    have ndx : d ≠ x := (ne_of_none hx hd).symm
    have hp1 : upd (upd H d (.dK [])) x (.ins C dx (putF "entered" (.ref d) [])) p = none := hp
    have npx : p ≠ x := (ne_of_none (show upd (upd H d (.dK [])) x (.ins C dx (putF "entered" (.ref d) [])) x = some _ from upd_same) hp1).symm
    have npd : p ≠ d := fun z => by
      rw [z, upd_ne ndx, upd_same] at hp1; cases hp1
    refine q d p _ (fun b o n e => ?_) hd ?_ ⟨⟨dx, upd_same⟩, ?_, ?_, ⟨(fun _ z => nomatch z), List.nodup_nil, Nat.zero_le _⟩⟩
    · rw [upd_ne n, upd_ne n, upd_ne (ne_of_none (show upd (upd H d (.dK [])) x (.ins C dx (putF "entered" (.ref d) [])) b = some o by rw [upd_ne n, upd_ne (ne_of_none e hd)]; exact e) hp), upd_ne n, upd_ne (ne_of_none e hd)]
      exact e
    · rw [upd_ne npx, upd_ne npd] at hp1; exact hp1
    · rw [upd_ne ndx, upd_ne ndx, upd_ne npd.symm, upd_ne ndx, upd_same]; rfl
    · rw [upd_ne npx, upd_ne npx, upd_same]
end
section
variable {P : Program} {w : World} {K : PySem.W.Frag} {mg : Str → Option Value} {base : Heap} {C : Addr}
seal PA PE PS PSs PT PW
theorem short {n : Nat} (h : n ≤ 1000) : n ≤ sizeLine := Nat.le_of_lt (small1000 h)
theorem scCell : FnScope ["_law_script", "_law_k"] ["_law_script", "_law_k"] (defScope sCell) := ⟨rfl, rfl, rfl, by decide +kernel, rfl, by decide +kernel, by decide +kernel⟩
theorem okCell (d : Df K mg "_law_cell_at" sCell ["_law_script", "_law_k"]) (G : Pg K mg C) : FnOk P w K mg base CX0 1 d.f d.fd ["_law_script", "_law_k"] (spCell K) := by
  refine d.F.ok scCell (fun vs H Q E h => ?_) (fun cdv A outer s H vs Q E hr h => ?_)
  · obtain ⟨a, ns, k, rfl, _⟩ := h
    rfl
  · obtain ⟨a, ns, k, rfl, hS, h0, q⟩ := h
    refine ⟨_, (pss_cons (ps_if (pt_cmpR op_lt (pv 1) (pe_callB call_len_seq (by rfl) G.T.len PySem.boot_len (pa_cons (pv 0) pa_nil)) (nomark _)) (pss_one (ps_ret (pe_ix ix_list (pv 0) (pv 1) (fun _ _ => rfl)))) pss_nil)
      (pss_one (ps_ret (pe_op op_add (pe_op op_mul pe_int (pv 1)) pe_int)))), ?_⟩
    try dsimp only [cxOf]
    refine ⟨_, rfl, _, rfl, a, _, rfl, .inl hS, _, _, rfl, rfl, _, rfl, ?_⟩
    refine ite2 (fun hc => ?_) (fun hc => ?_)
    · have hlt := of_decide_eq_true hc
      rw [List.length_map] at hlt
      obtain ⟨z, hz⟩ := atI_int h0 hlt
      exact ⟨_, rfl, _, rfl, a, _, _, _, rfl, rfl, hS, hz, q z⟩
    · exact ⟨_, rfl, _, _, rfl, rfl, .inl ⟨by decide, by decide⟩, _, _, rfl, rfl, q _⟩
theorem let_in {k : Int} (h0 : 0 ≤ k) (h1 : k < 26) : 97 + k.toNat ∈ LET.cps.toList := by
  have hall : ∀ k : Nat, k < 26 → 97 + k ∈ LET.cps.toList := by decide +kernel
  exact hall _ (by omega)
theorem str_len (a b : Str) : (a ++ b).length = a.length + b.length := by
  show (a.cps ++ b.cps).size = _
  rw [Array.size_append]; rfl
theorem str_mem {a b : Str} {c : Nat} (h : c ∈ (a ++ b).cps.toList) : c ∈ a.cps.toList ∨ c ∈ b.cps.toList := by
  have h : c ∈ (a.cps ++ b.cps).toList := h
  rw [Array.toList_append] at h
  exact List.mem_append.mp h
inductive I_spNa (vs : List V) (H : Hp) (Q : VK) : Prop
  | mk (c : Int) (q_1 : vs = [.int c, .int 10]) (q_2 : ∀ (l : Addr) (ns : List Str) H', Same H H' → H l = none → H' l = some (.lst (ns.map V.str)) → ns.length = 10 → (∀ z ∈ ns, nm z = true) → Q (.ref l) H')
noncomputable def spNa : Sp := fun vs H Q _ => I_spNa  vs H Q
theorem scNa : FnScope ["_law_cell", "_law_many", "_law_letters", "_law_size", "_law_at", "_law_found", "_law_k", "_law_name", "_law_j", "_law_place"] ["_law_cell", "_law_many"] (defScope sNa) := ⟨rfl, rfl, rfl, by decide +kernel, rfl, by decide +kernel, by decide +kernel⟩
theorem okNa (d : Df K mg "_law_names" sNa ["_law_cell", "_law_many"]) (G : Pg K mg C) : FnOk P w K mg base CX0 1 d.f d.fd ["_law_cell", "_law_many"] spNa := by
  refine d.F.ok scNa (fun vs H Q E h => ?_) (fun cdv A outer s H vs Q E hr h => ?_)
  · obtain ⟨_, rfl, _⟩ := h
    rfl
  · obtain ⟨c, rfl, q⟩ := h
    refine ⟨_, (pss_cons (ps_set (i := 2) scNa.nd rfl (by first | exact Or.inl rfl | exact Or.inr rfl) pe_str)
      (pss_cons (ps_if (pt_cmpR op_eq (pe_op op_mod (pv 0) pe_int) pe_int (nomark _)) (pss_one (ps_ret (pe_compN (compOkN (fr := [("_law_letters", 2), ("_law_cell", 0)])) rfl (pi_range1 (by rfl) G.T.range (pa_cons (pv 1) pa_nil)) (fun _ _ _ => pts_nil) (fun _ _ _ => (pe_op op_mulS (pe_ix ix_str (pv 1) (pe_op op_mod (pe_op op_fdiv (pv 2) pe_int) pe_int) (fun _ _ => rfl)) (pe_op op_add (pv 0) pe_int)))))) pss_nil)
      (pss_cons (ps_set (i := 3) scNa.nd rfl (by first | exact Or.inl rfl | exact Or.inr rfl) (pe_op op_add pe_int (pe_op op_mod (pv 0) pe_int)))
      (pss_cons (ps_set (i := 4) scNa.nd rfl (by first | exact Or.inl rfl | exact Or.inr rfl) (pe_op op_mod (pe_op op_fdiv (pv 0) pe_int) (pv 3)))
      (pss_cons (ps_set (i := 5) scNa.nd rfl (by first | exact Or.inl rfl | exact Or.inr rfl) (pe_lst pa_nil))
      (pss_cons (ps_for PassesOwn.never rfl (pi_range1 (by rfl) G.T.range (pa_cons (pv 1) pa_nil)) (pg_name (i := 6) scNa.nd rfl (by first | exact Or.inl rfl | exact Or.inr rfl)) (pss_cons (ps_set (i := 7) scNa.nd rfl (by first | exact Or.inl rfl | exact Or.inr rfl) pe_str)
      (pss_cons (ps_for PassesOwn.never rfl (pi_range1 (by rfl) G.T.range (pa_cons (pv 3) pa_nil)) (pg_name (i := 8) scNa.nd rfl (by first | exact Or.inl rfl | exact Or.inr rfl)) (pss_cons (ps_set (i := 9) scNa.nd rfl (by first | exact Or.inl rfl | exact Or.inr rfl) (pe_op op_add (pe_op op_fdiv (pv 0) (pe_op op_add pe_int (pe_op op_mul pe_int (pv 8)))) (pe_op op_mul (pv 8) (pv 8))))
      (pss_cons (ps_if (pt_cmpR op_eq (pv 8) (pv 4) (nomark _)) (pss_one (ps_set (i := 9) scNa.nd rfl (by first | exact Or.inl rfl | exact Or.inr rfl) (pe_op op_add (pv 9) (pv 6)))) pss_nil)
      (pss_one (ps_set (i := 7) scNa.nd rfl (by first | exact Or.inl rfl | exact Or.inr rfl) (pe_op op_add_str (pv 7) (pe_ix ix_str (pv 2) (pe_op op_mod (pv 9) pe_int) (fun _ _ => rfl))))))))
      (pss_one (ps_expr (pe_bm PySem.F.plainAttrs_list PySem.F.slot_list_append PySem.F.type_list_append mt_append (pv 5) (pa_cons (pv 7) pa_nil)))))))
      (pss_one (ps_ret (pv 5))))))))), ?_⟩
    try dsimp only [cxOf]
    refine ⟨_, rfl, _, _, rfl, rfl, (by show (0 : Int) < 5; decide), rfl, _, rfl, ite2 (fun _ => ?_) (fun _ => ?_)⟩
    · refine ⟨_, rfl, _, rfl, by decide, by decide, fun D hD => compN_range (lo := 0) (n := 10) (fun i ac H2 => H2 D = some (.lst ac) ∧ Same H H2 ∧ ∃ ns : List Str, ac = ns.map V.str ∧ ns.length = i ∧ ∀ z ∈ ns, nm z = true)
        ⟨upd_same, same_new hD, [], rfl, rfl, fun _ z => nomatch z⟩ ?_ ?_ ?_⟩
      · rintro i ac H2 hi ⟨h2, s2, ns, rfl, ln, _⟩
        exact ⟨h2, small1000 (by rw [List.length_map, ln]; exact Nat.le_trans hi (by decide))⟩
      · rintro i ac H2 N hi hN ⟨h2, s2, ns, rfl, ln, hg⟩
        have hc1 := at_let (i := c / 5 % 26) (Int.emod_nonneg _ (by decide)) (Int.emod_lt_of_pos _ (by decide))
        refine ⟨_, rfl, _, rfl, _, _, rfl, rfl, ⟨by decide, by decide⟩, _, _, rfl, rfl, (by show (0 : Int) < 26; decide), _, _, _, rfl, rfl, (by decide +kernel), hc1, _, rfl, _, _, rfl, rfl, ⟨#[97 + (c / 5 % 26).toNat]⟩, i + 1, rfl, ?_, by omega, by omega, rfl, fun z lz hz => ⟨h2, hN _ _ ⟨upd_same, same_upd s2 hD, ns ++ [z], by rw [List.map_append]; rfl, by rw [List.length_append, ln]; rfl, fun y hy => ?_⟩⟩⟩
        · show V.int _ = V.int _
          congr 1
          omega
        · rcases List.mem_append.mp hy with hy | hy
          · exact hg y hy
          · rw [List.mem_singleton.mp hy]
            refine nm_of (by omega) (by omega) fun x hx => ?_
            have := hz x hx
            have hx' : x ∈ [97 + (c / 5 % 26).toNat] := this
            rw [List.mem_singleton.mp hx']
            exact let_in (Int.emod_nonneg _ (by decide)) (Int.emod_lt_of_pos _ (by decide))
      · rintro ac H2 ⟨h2, s2, ns, rfl, ln, hg⟩
        exact q D ns H2 s2 hD h2 ln hg
    · refine ⟨_, rfl, _, _, rfl, rfl, (by show (0 : Int) < 12; decide), _, _, rfl, rfl, ?_⟩
      have z0 : 0 ≤ c % 12 := Int.emod_nonneg _ (by decide)
      have z1 : c % 12 < 12 := Int.emod_lt_of_pos _ (by decide)
      dsimp only
      generalize hsz : 1 + c % 12 = sz
      have p0 : 0 < sz := by omega
      have p12 : sz ≤ 12 := by omega
      clear hsz z0 z1
      refine ⟨_, rfl, _, _, rfl, rfl, ⟨by decide, by decide⟩, _, rfl, _, _, rfl, rfl, p0, ?_⟩
      dsimp only
      generalize c / 12 % sz = at'
      refine ⟨Nat.zero_le _, fun l hl => ?_⟩
      refine ⟨_, rfl, _, rfl, by decide, by decide, for_range (lo := 0) (n := 10) (fun i σ H3 => ∃ (x6 x7 x8 x9 : Option V) (ns : List Str), σ = [some (.int c), some (.int 10), some (.str abcS), some (.int sz), some (.int at'), some (.ref l), x6, x7, x8, x9] ∧ Same H H3 ∧ H3 l = some (.lst (ns.map V.str)) ∧ ns.length = i ∧ ∀ z ∈ ns, nm z = true)
        ⟨none, none, none, none, [], rfl, same_new hl, upd_same, rfl, fun _ z => nomatch z⟩ ?_ ?_⟩
      · rintro i σ H3 hi ⟨x6, x7, x8, x9, ns, rfl, s3, h3, ln, hg⟩
        refine ⟨_, rfl, _, rfl, by omega, by omega, for_range (lo := 0) (n := sz.toNat) (fun j σ H4 => ∃ (x8 x9 : Option V) (z : Str), σ = [some (.int c), some (.int 10), some (.str abcS), some (.int sz), some (.int at'), some (.ref l), some (.int (0 + (i : Int))), some (.str z), x8, x9] ∧ H4 = H3 ∧ z.length = j ∧ ∀ x ∈ z.cps.toList, x ∈ LET.cps.toList)
          ⟨x8, x9, Str.ofString "", rfl, rfl, by decide +kernel, fun x hx => ?_⟩ ?_ ?_⟩
        · rw [show (Str.ofString "").cps.toList = [] by decide +kernel] at hx
          cases hx
        · rintro j σ H4 hj ⟨x8, x9, z, rfl, rfl, lz, hz⟩
          refine ⟨_, rfl, _, rfl, _, _, rfl, rfl, .inl ⟨by decide, by decide⟩, _, _, rfl, rfl, _, _, rfl, rfl, ⟨by omega, by omega⟩, _, rfl, _, rfl, _, _, rfl, rfl, .inl ⟨by omega, by omega⟩, _, _, rfl, rfl, ?_⟩
          dsimp only
          generalize c / (144 + 5 * (0 + (j : Int))) + (0 + (j : Int)) * (0 + (j : Int)) = pl
          refine any_ifPH (fun σ' H' => H' = H4 ∧ ∃ pl : Int, σ' = [some (.int c), some (.int 10), some (.str abcS), some (.int sz), some (.int at'), some (.ref l), some (.int (0 + (i : Int))), some (.str z), some (.int (0 + (j : Int))), some (.int pl)]) (fun Q q => ⟨_, rfl, _, rfl, rfl, _, rfl, q _⟩) (fun D' k => ⟨_, rfl, _, rfl, _, _, rfl, rfl, k _ _ ⟨rfl, _, rfl⟩⟩) ⟨rfl, _, rfl⟩ ?_
          rintro _ H4 ⟨rfl, pl, rfl⟩
          have hc1 := at_let (i := pl % 26) (Int.emod_nonneg _ (by decide)) (Int.emod_lt_of_pos _ (by decide))
          refine ⟨_, rfl, _, rfl, _, rfl, _, _, rfl, rfl, (by show (0 : Int) < 26; decide), _, _, _, rfl, rfl, (by decide +kernel), hc1, _, _, rfl, rfl, short (show z.length + 1 ≤ 1000 by omega), ⟨_, _, z ++ ⟨#[97 + (pl % 26).toNat]⟩, rfl, rfl, ?_, fun x hx => ?_⟩⟩
          · rw [str_len, lz]; rfl
          · rcases str_mem hx with hx | hx
            · exact hz x hx
            · have hx' : x ∈ [97 + (pl % 26).toNat] := hx
              rw [List.mem_singleton.mp hx']
              exact let_in (Int.emod_nonneg _ (by decide)) (Int.emod_lt_of_pos _ (by decide))
        · rintro σ H4 ⟨x8, x9, z, rfl, rfl, lz, hz⟩
          refine ⟨_, rfl, .inl ⟨rfl, _, SqL.of h3⟩, _, rfl, l, _, _, rfl, rfl, h3, small1000 (by rw [List.length_map]; omega), ?_⟩
          refine ⟨_, _, _, _, ns ++ [z], rfl, same_upd s3 hl, by rw [upd_same, List.map_append]; rfl, by rw [List.length_append, ln]; rfl, fun y hy => ?_⟩
          rcases List.mem_append.mp hy with hy | hy
          · exact hg y hy
          · rw [List.mem_singleton.mp hy]
            exact nm_of (by omega) (by omega) hz
      · rintro σ H3 ⟨x6, x7, x8, x9, ns, rfl, s3, h3, ln, hg⟩
        exact ⟨_, rfl, q l ns H3 s3 hl h3 ln hg⟩
theorem atI_mem {α : Type} {xs : List α} {i : Int} (h0 : 0 ≤ i) (h1 : i < xs.length) : ∃ z, z ∈ xs ∧ atI xs i = some z := by
  obtain ⟨k, rfl⟩ := Int.eq_ofNat_of_zero_le h0
  have hk : k < xs.length := by omega
  exact ⟨xs[k], List.getElem_mem _, atI_nat (List.getElem?_eq_getElem hk)⟩
noncomputable def ThN (ns : List Str) (x : V) : Prop := ∀ s, x = .str s → nm s = decide (s ∈ ns)
theorem thn_no {ns : List Str} (hg : ∀ z ∈ ns, nm z = true) {s : Str} (h : nm s = false) : ThN ns (.str s) := fun t e => by
  cases e
  rw [h]
  exact (decide_eq_false fun z => by rw [hg _ z] at h; cases h).symm
theorem thn_non {ns : List Str} {x : V} (h : isS x = false) : ThN ns x := fun t e => by rw [e] at h; cases h
theorem nm_cap (z : Str) : nm (z ++ Str.ofString "A") = false := by
  unfold nm
  have e : (z ++ Str.ofString "A").cps.toList.all (fun c => decide (c ∈ LET.cps.toList)) = false := by
    rw [List.all_eq_false]
    refine ⟨65, ?_, ?_⟩
    · show 65 ∈ (z.cps ++ (Str.ofString "A").cps).toList
      rw [Array.toList_append]
      exact List.mem_append_right _ (by decide +kernel)
    · rw [decide_eq_false (by decide +kernel)]; exact Bool.false_ne_true
  rw [e, Bool.and_false]
inductive I_spTg (vs : List V) (H : Hp) (Q : VK) : Prop
  | mk (c : Int) (nl : Addr) (ns : List Str) (q_1 : vs = [.int c, .ref nl]) (q_2 : H nl = some (.lst (ns.map V.str))) (q_3 : ns.length = 10) (q_4 : (∀ z ∈ ns, nm z = true)) (q_5 : ∀ x H', Same H H' → Th H' x → ThN ns x → Q x H')
noncomputable def spTg : Sp := fun vs H Q _ => I_spTg  vs H Q
theorem scTg : FnScope ["_law_cell", "_law_names_here", "_law_some"] ["_law_cell", "_law_names_here"] (defScope sTg) := ⟨rfl, rfl, rfl, by decide +kernel, rfl, by decide +kernel, by decide +kernel⟩
theorem okTg (d : Df K mg "_law_thing" sTg ["_law_cell", "_law_names_here"]) (G : Pg K mg C) : FnOk P w K mg base CX0 1 d.f d.fd ["_law_cell", "_law_names_here"] spTg := by
  refine d.F.ok scTg (fun vs H Q E h => ?_) (fun cdv A outer s H vs Q E hr h => ?_)
  · obtain ⟨_, _, _, rfl, _⟩ := h
    rfl
  · obtain ⟨c, nl, ns, rfl, hnl, ln, hg, q⟩ := h
    obtain ⟨z0, hz0, ez0⟩ := atI_mem (xs := ns.map V.str) (i := 0) (by decide) (by rw [List.length_map]; omega)
    obtain ⟨y0, hy0, rfl⟩ := List.mem_map.mp hz0
    have ly := nm_len (hg y0 hy0)
    refine ⟨_, (pss_cons (ps_set (i := 2) scTg.nd rfl (by first | exact Or.inl rfl | exact Or.inr rfl) (pe_lst (pa_con pe_str (pa_con pe_str (pa_con pe_str (pa_con pe_str (pa_con pe_str (pa_con pe_str (pa_con pe_non (pa_con pe_int (pa_con pe_bl (pa_ls (pe_lst (pa_con pe_str pa_nil)) (pa_tp (pe_tup (pa_con pe_str pa_nil)) (pa_bi (pe_op op_add_str (pe_ix ix_list (pv 1) pe_int (fun _ _ => rfl)) pe_str) pa_nil))))))))))))))
      (pss_cons (ps_if (pt_cmpR op_eq (pe_op op_mod (pv 0) pe_int) pe_int (nomark _)) (pss_one (ps_ret (pe_ix ix_list (pv 2) (pe_op op_mod (pe_op op_fdiv (pv 0) pe_int) pe_int) (fun _ _ => rfl)))) pss_nil)
      (pss_one (ps_ret (pe_ix ix_list (pv 1) (pe_op op_mod (pe_op op_fdiv (pv 0) pe_int) (pe_callB call_len_seq (by rfl) G.T.len PySem.boot_len (pa_nm (pv 1) pa_nil))) (fun _ _ => rfl)))))), ?_⟩
    try dsimp only [cxOf]
    refine ⟨(by show 1 ≤ sizeLine; decide), fun a1 h1 => ⟨(by show 1 ≤ sizeLine; decide), fun a2 h2 => ?_⟩⟩
    have s1 := same_new (o := .lst [.str (Str.ofString "ann")]) h1
    have s2 := s1.trans (same_new (o := .tup [.str (Str.ofString "ann")]) h2)
    refine ⟨_, rfl, nl, _, _, _, rfl, rfl, SqL.of (s2 _ _ hnl), ez0, _, _, rfl, rfl, short (show y0.length + 1 ≤ 1000 by omega), (by show 12 ≤ sizeLine; decide), fun l hl => ?_⟩
    have s3 := s2.trans (same_new (o := .lst [.str (Str.ofString ""), .str (Str.ofString "Ann"), .str (Str.ofString "ann1"), .str (Str.ofString "a b"), .str (Str.ofString "abcdefghijklm"), .str (Str.ofString "-"), .non, .int 7, .bl true, .ref a1, .ref a2, .str (y0 ++ Str.ofString "A")]) hl)
    refine ⟨_, rfl, _, _, rfl, rfl, (by show (0 : Int) < 5; decide), rfl, _, rfl, ite2 (fun _ => ?_) (fun _ => ?_)⟩
    · have b0 : 0 ≤ c / 5 % 12 := Int.emod_nonneg _ (by decide)
      have b1 : c / 5 % 12 < 12 := Int.emod_lt_of_pos _ (by decide)
      obtain ⟨x, hx, ex⟩ := atI_mem (xs := [V.str (Str.ofString ""), .str (Str.ofString "Ann"), .str (Str.ofString "ann1"), .str (Str.ofString "a b"), .str (Str.ofString "abcdefghijklm"), .str (Str.ofString "-"), .non, .int 7, .bl true, .ref a1, .ref a2, .str (y0 ++ Str.ofString "A")]) b0 (by simpa using b1)
      refine ⟨_, rfl, _, rfl, _, _, rfl, rfl, ⟨by decide, by decide⟩, _, _, rfl, rfl, (by show (0 : Int) < 12; decide), l, _, _, _, rfl, rfl, SqL.of upd_same, ex, ?_⟩
      have odd : ∀ s : Str, s.length ≤ 27 → nm s = false → Q (.str s) _ := fun s h27 hn => q (.str s) _ s3 (.str s h27) (thn_no hg hn)
      simp only [List.mem_cons, List.not_mem_nil, or_false] at hx
      rcases hx with rfl | rfl | rfl | rfl | rfl | rfl | rfl | rfl | rfl | rfl | rfl | rfl
      · exact odd _ (by decide +kernel) (by decide +kernel)
      · exact odd _ (by decide +kernel) (by decide +kernel)
      · exact odd _ (by decide +kernel) (by decide +kernel)
      · exact odd _ (by decide +kernel) (by decide +kernel)
      · exact odd _ (by decide +kernel) (by decide +kernel)
      · exact odd _ (by decide +kernel) (by decide +kernel)
      · exact q _ _ s3 .non (thn_non rfl)
      · exact q _ _ s3 (.int _) (thn_non rfl)
      · exact q _ _ s3 (.bl _) (thn_non rfl)
      · exact q _ _ s3 (.lst (same_new hl _ _ (same_new h2 _ _ upd_same))) (thn_non rfl)
      · exact q _ _ s3 (.tup (same_new hl _ _ upd_same)) (thn_non rfl)
      · exact odd _ (by rw [str_len, show (Str.ofString "A").length = 1 by decide +kernel]; omega) (nm_cap y0)
    · have hlen : ((ns.map V.str).length : Int) = 10 := by rw [List.length_map, ln]; rfl
      obtain ⟨x, hx, ex⟩ := atI_mem (xs := ns.map V.str) (i := c / 5 % ((ns.map V.str).length : Int)) (Int.emod_nonneg _ (by omega)) (Int.emod_lt_of_pos _ (by omega))
      obtain ⟨y, hy, rfl⟩ := List.mem_map.mp hx
      have lyy := nm_len (hg y hy)
      refine ⟨_, rfl, _, rfl, _, _, rfl, rfl, ⟨by decide, by decide⟩, _, rfl, nl, _, rfl, .inl (SqL.of (s3 _ _ hnl)), _, _, rfl, rfl, (by omega), nl, _, _, _, rfl, rfl, SqL.of (s3 _ _ hnl), ex, ?_⟩
      refine q (.str y) _ s3 (.str y (by omega)) fun t e => ?_
      cases e
      rw [hg y hy, decide_eq_true hy]
end
section
variable {P : Program} {w : World} {K : PySem.W.Frag} {mg : Str → Option Value} {base : Heap} {C : Addr}
seal PA PE PS PSs PT PW
theorem int_dec (x y : Int) : decide (V.int x = V.int y) = decide (x = y) := decide_eq_decide.mpr ⟨fun h => V.int.inj h, fun h => by rw [h]⟩
theorem bl_dec (x y : Bool) : decide (V.bl x = V.bl y) = (x == y) := by cases x <;> cases y <;> first | exact decide_eq_true rfl | exact decide_eq_false fun h => nomatch h
noncomputable def rfC (G : Pg K mg C) (k : Nat) : Addr := if k = 0 then G.X.xN.C else G.X.xG.C
noncomputable def rfW (k : Nat) : Str := if k = 0 then Str.ofString "name" else Str.ofString "guest"
noncomputable def dueW (k : Nat) : Option Es → Str | some _ => Str.ofString "done" | none => rfW k
theorem act3 {es : Es} {x : V} : act 3 es x = if hasE es x = true then some es else none := by
  cases x with
  | str z =>
    show actS 3 es z = if (nm z && (look es z).isSome) = true then some es else none
    unfold actS
    cases hz : nm z with
    | false => rw [if_pos rfl, Bool.false_and, if_neg Bool.false_ne_true]
    | true =>
      rw [if_neg (fun q => nomatch q), if_neg (by decide), if_neg (by decide), if_neg (by decide), Bool.true_and]
      cases look es z <;> rfl
  | _ => rfl
inductive I_spDo (G : Pg K mg C) (vs : List V) (H : Hp) (Q : VK) (E : XK) : Prop
  | mk (h d p : Addr) (es : Es) (k : Nat) (x : V) (q_1 : vs = [.ref h, .int (k : Int), x]) (q_2 : k ≤ 3) (q_3 : Hs C h d p H es) (q_4 : Th H x) (q_5 : (∀ es', act k es x = some es' → ∀ v H', SameB d H H' → H' d = some (.dK (kvE es')) → (k < 3 → v = .non) → (k = 3 → ∃ t xs, v = .ref t ∧ H' t = some (.tup xs)) → Q v H')) (q_6 : (act k es x = none → ∀ H', Same H H' → E (.ref (rfC G k)) none H'))
noncomputable def spDo (G : Pg K mg C) : Sp := fun vs H Q E => I_spDo G vs H Q E
theorem scDo : FnScope ["_law_house", "_law_deed", "_law_thing_here"] ["_law_house", "_law_deed", "_law_thing_here"] (defScope sDo) := ⟨rfl, rfl, rfl, by decide +kernel, rfl, by decide +kernel, by decide +kernel⟩
theorem okDo (d : Df K mg "_law_done" sDo ["_law_house", "_law_deed", "_law_thing_here"]) (G : Pg K mg C) : FnOk P w K mg base (CXE P w) 7 d.f d.fd ["_law_house", "_law_deed", "_law_thing_here"] (spDo G) := by
  have GEn : FnOk P w K mg base (CXE P w) 2 G.dEn.f G.dEn.fd ["self", "name"] (spAct C 0 G.X.xN.C) := okEn G
  have GLe : FnOk P w K mg base (CXE P w) 3 G.dLe.f G.dLe.fd ["self", "name"] (spAct C 1 G.X.xG.C) := okLe G
  have GBa : FnOk P w K mg base (CXE P w) 3 G.dBa.f G.dBa.fd ["self", "name"] (spAct C 2 G.X.xG.C) := okBa G
  have GHc : FnOk P w K mg base (CXE P w) 6 G.dHc.f G.dHc.fd ["self", "name"] (spHc C G.X.xG.C) := okHc G
  refine d.F.okE scDo (fun vs H Q E h => ?_) (fun cdv A outer s H vs Q E hr h => ?_)
  · obtain ⟨_, _, _, _, _, _, rfl, _⟩ := h
    rfl
  · obtain ⟨h, d, p, es, k, x, rfl, k3, hs, hx, qT, qF⟩ := h
    obtain ⟨dx, hi⟩ := hs.ins
    refine ⟨_, (pss_cons (ps_if (pt_cmpR op_eq (pv 1) pe_int (nomark _)) (pss_one (ps_ret (pe_meth (pv 0) G.W.cl G.dEn.m GEn (hr.mono (by omega)) G.dEn.b .nil (passes_on fun _ _ _ z => z) (pa_cons (pv 2) pa_nil)))) pss_nil)
      (pss_cons (ps_if (pt_cmpR op_eq (pv 1) pe_int (nomark _)) (pss_one (ps_ret (pe_meth (pv 0) G.W.cl G.dLe.m GLe (hr.mono (by omega)) G.dLe.b .nil (passes_on fun _ _ _ z => z) (pa_cons (pv 2) pa_nil)))) pss_nil)
      (pss_cons (ps_if (pt_cmpR op_eq (pv 1) pe_int (nomark _)) (pss_one (ps_ret (pe_meth (pv 0) G.W.cl G.dBa.m GBa (hr.mono (by omega)) G.dBa.b .nil (passes_on fun _ _ _ z => z) (pa_cons (pv 2) pa_nil)))) pss_nil)
      (pss_one (ps_ret (pe_meth (pv 0) G.W.cl G.dHc.m GHc (hr.mono (by omega)) G.dHc.b .nil (passes_on fun _ _ _ z => z) (pa_cons (pv 2) pa_nil))))))), ?_⟩
    try dsimp only [cxOf]
    refine ⟨_, rfl, rfl, _, rfl, ?_⟩
    rw [int_dec]
    refine ite2 (fun h0 => ?_) (fun h0 => ?_)
    · have h0 : k = 0 := by have := of_decide_eq_true h0; omega
      subst h0
      exact ⟨_, rfl, h, dx, _, rfl, hi, rfl, _, rfl, h, d, p, es, x, rfl, hs, hx, fun es' ea H' sb hd => qT es' ea .non H' sb hd (fun _ => rfl) (fun z => by cases z), fun ea H' s1 => qF ea H' s1⟩
    have h0 : k ≠ 0 := fun z => h0 (decide_eq_true (by omega))
    refine ⟨_, rfl, rfl, _, rfl, ?_⟩
    rw [int_dec]
    refine ite2 (fun h1 => ?_) (fun h1 => ?_)
    · have h1 : k = 1 := by have := of_decide_eq_true h1; omega
      subst h1
      exact ⟨_, rfl, h, dx, _, rfl, hi, rfl, _, rfl, h, d, p, es, x, rfl, hs, hx, fun es' ea H' sb hd => qT es' ea .non H' sb hd (fun _ => rfl) (fun z => by cases z), fun ea H' s1 => qF ea H' s1⟩
    have h1 : k ≠ 1 := fun z => h1 (decide_eq_true (by omega))
    refine ⟨_, rfl, rfl, _, rfl, ?_⟩
    rw [int_dec]
    refine ite2 (fun h2 => ?_) (fun h2 => ?_)
    · have h2 : k = 2 := by have := of_decide_eq_true h2; omega
      subst h2
      exact ⟨_, rfl, h, dx, _, rfl, hi, rfl, _, rfl, h, d, p, es, x, rfl, hs, hx, fun es' ea H' sb hd => qT es' ea .non H' sb hd (fun _ => rfl) (fun z => by cases z), fun ea H' s1 => qF ea H' s1⟩
    have h2 : k ≠ 2 := fun z => h2 (decide_eq_true (by omega))
    have h3 : k = 3 := by omega
    subst h3
    rw [act3] at qF
    refine ⟨_, rfl, h, dx, _, rfl, hi, rfl, _, rfl, h, d, p, es, x, rfl, hs, hx, fun hh t xs H' s1 ht => ?_, fun hh H' s1 => ?_⟩
    · exact qT es (by rw [act3, if_pos hh]) _ H' (SameB.of s1) (s1 _ _ hs.dic) (fun z => absurd z (by decide)) (fun _ => ⟨t, xs, rfl, ht⟩)
    · exact qF (by rw [if_neg (by rw [hh]; exact Bool.false_ne_true)]) H' s1
inductive I_spSd (C : Addr) (vs : List V) (H : Hp) (Q : VK) : Prop
  | mk (h d p : Addr) (es : Es) (k : Nat) (x : V) (q_1 : vs = [.ref h, .int (k : Int), x]) (q_2 : k ≤ 3) (q_3 : Hs C h d p H es) (q_4 : Th H x) (q_5 : (∀ es', act k es x = some es' → ∀ H', SameB d H H' → H' d = some (.dK (kvE es')) → Q (.str (Str.ofString "done")) H')) (q_6 : (act k es x = none → ∀ H', Same H H' → Q (.str (rfW k)) H'))
noncomputable def spSd (C : Addr) : Sp := fun vs H Q _ => I_spSd C vs H Q
noncomputable def eSd (G : Pg K mg C) (h : Addr) (k : Nat) (x : V) (es : Es) (H : Hp) : L2.St → XK := fun σ cls dd H2 => cls = .ref (rfC G k) ∧ dd = none ∧ σ = [some (.ref h), some (.int (k : Int)), some x, some .non] ∧ Same H H2 ∧ act k es x = none
theorem scSd : FnScope ["_law_house", "_law_deed", "_law_thing_here", "_law_found"] ["_law_house", "_law_deed", "_law_thing_here"] (defScope sSd) := ⟨rfl, rfl, rfl, by decide +kernel, rfl, by decide +kernel, by decide +kernel⟩
theorem okSd (d : Df K mg "_law_said" sSd ["_law_house", "_law_deed", "_law_thing_here"]) (dDo : Df K mg "_law_done" sDo ["_law_house", "_law_deed", "_law_thing_here"]) (G : Pg K mg C) : FnOk P w K mg base CX0 8 d.f d.fd ["_law_house", "_law_deed", "_law_thing_here"] (spSd C) := by
  have GDo : FnOk P w K mg base (CXE P w) 7 dDo.f dDo.fd ["_law_house", "_law_deed", "_law_thing_here"] (spDo G) := okDo dDo G
  refine d.F.ok scSd (fun vs H Q E h => ?_) (fun cdv A outer s H vs Q E hr h => ?_)
  · obtain ⟨_, _, _, _, _, _, rfl, _⟩ := h
    rfl
  · obtain ⟨h, d, p, es, k, x, rfl, k3, hs, hx, qT, qF⟩ := h
    refine ⟨_, (pss_cons (ps_set (i := 3) scSd.nd rfl (by first | exact Or.inl rfl | exact Or.inr rfl) pe_non)
      (pss_cons (ps_try2 (E := eSd G h k x es H) rfl rfl rfl G.X.xN.ex (by rfl) G.X.xN.m G.X.xG.ex (by rfl) G.X.xG.m (fun pn xe hx => (pss_one (ps_set (i := 3) scSd.nd rfl (by first | exact Or.inl rfl | exact Or.inr rfl) (pe_callS GDo (hr.mono (by omega)) (by rfl) dDo.m dDo.F.kp dDo.b .nil hx (pa_cons (pv 0) (pa_cons (pv 1) (pa_cons (pv 2) pa_nil))))))) (fun ae => (pss_one (ps_ret pe_str))) (fun ae => (pss_one (ps_ret pe_str))))
      (pss_cons (ps_if (PW.pt (pw_or (pt_cmpR op_isN (pv 3) pe_non (nomark _)) (pw_or1 (pt_cmpR op_eq (pv 1) pe_int (nomark _))))) (pss_one (ps_ret pe_str)) pss_nil)
      (pss_one (ps_ret pe_str))))), ?_⟩
    try dsimp only [cxOf]
    refine ⟨⟨_, rfl, _, rfl, _, rfl, h, d, p, es, k, x, rfl, k3, hs, hx, fun es2 ea v H' sb hd v1 v2 => ?_, fun ea H' s1 => ⟨rfl, rfl, rfl, s1, ea⟩⟩, ?_⟩
    · by_cases h3 : k = 3
      · obtain ⟨t, xs, rfl, ht⟩ := v2 h3
        refine ⟨_, rfl, rfl, _, rfl, ?_⟩
        rw [decide_eq_false (fun z => nomatch z)]
        refine iteF ⟨_, rfl, rfl, _, rfl, ?_⟩
        rw [int_dec, decide_eq_true (by omega)]
        exact iteT (qT es2 ea H' sb hd)
      · have e := v1 (by omega)
        subst e
        refine ⟨_, rfl, rfl, _, rfl, ?_⟩
        rw [decide_eq_true rfl]
        exact iteT (iteT (qT es2 ea H' sb hd))
    · rintro σ1 cls dd H1 a ⟨rfl, rfl, rfl, s1, ha⟩ hae
      have sA : Same H (upd H1 a (.ext (IsExc a (.ref (rfC G k)) none))) := s1.trans (same_new hae)
      refine ⟨rfC G k, rfl, ?_, ?_⟩
      · unfold rfC
        split
        · exact G.X.xN.ex
        · exact G.X.xG.ex
      · have qF' := qF ha _ sA
        unfold rfW at qF'
        by_cases h0 : k = 0
        · have e : rfC G k = G.X.xN.C := if_pos h0
          rw [if_pos h0] at qF'
          rw [e] at qF' ⊢
          exact .inl ⟨G.X.nn, qF'⟩
        · have e : rfC G k = G.X.xG.C := if_neg h0
          rw [if_neg h0] at qF'
          rw [e] at qF' ⊢
          exact .inr ⟨G.X.gn, G.X.gg, qF'⟩
end
section
variable {P : Program} {w : World} {K : PySem.W.Frag} {mg : Str → Option Value} {base : Heap} {C : Addr}
seal PA PE PS PSs PT PW
theorem rf_facts (G : Pg K mg C) (k : Nat) : PySem.W.excIn K (rfC G k) bmVE "ValueError.__new__" = true ∧ subK K (rfC G k) G.X.xR.C = true ∧ XC K (rfC G k) ∧ PySem.W.kitOne K (.ref (rfC G k)) (.ref G.X.oT.C) = some false ∧ PySem.W.kitOne K (.ref (rfC G k)) (.ref G.X.oF.C) = some false ∧ PySem.W.kitOne K (.ref (rfC G k)) (.type "ValueError") = some true ∧
    PySem.W.kitOne K (.ref (rfC G k)) (.ref G.X.xN.C) = some (decide (rfW k = Str.ofString "name")) ∧ PySem.W.kitOne K (.ref (rfC G k)) (.ref G.X.xG.C) = some (decide (rfW k = Str.ofString "guest")) := by
  have e1 : decide (Str.ofString "name" = Str.ofString "name") = true := by decide +kernel
  have e2 : decide (Str.ofString "name" = Str.ofString "guest") = false := by decide +kernel
  have e3 : decide (Str.ofString "guest" = Str.ofString "name") = false := by decide +kernel
  have e4 : decide (Str.ofString "guest" = Str.ofString "guest") = true := by decide +kernel
  unfold rfC rfW
  by_cases h : k = 0
  · rw [if_pos h, if_pos h, e1, e2]
    exact ⟨G.X.xN.ex, G.X.nR, G.X.cN, G.X.oT.noN, G.X.oF.noN, G.X.kNV, G.X.kNN, G.X.kNG⟩
  · rw [if_neg h, if_neg h, e3, e4]
    exact ⟨G.X.xG.ex, G.X.gR, G.X.cG, G.X.oT.noG, G.X.oF.noG, G.X.kGV, G.X.kGN, G.X.kGG⟩
inductive I_spRf (C : Addr) (vs : List V) (H : Hp) (Q : VK) : Prop
  | mk (h d p : Addr) (es : Es) (k : Nat) (x : V) (q_1 : vs = [.ref h, .int (k : Int), x, .str (rfW k)]) (q_2 : k ≤ 3) (q_3 : Hs C h d p H es) (q_4 : Th H x) (q_5 : act k es x = none) (q_6 : ∀ H', Same H H' → Q (.bl true) H')
noncomputable def spRf (C : Addr) : Sp := fun vs H Q _ => I_spRf C vs H Q
noncomputable def eRf (G : Pg K mg C) (h : Addr) (k : Nat) (x : V) (es : Es) (H : Hp) : L2.St → XK := fun σ cls dd H2 => cls = .ref (rfC G k) ∧ dd = none ∧ σ = [some (.ref h), some (.int (k : Int)), some x, some (.str (rfW k)), none] ∧ Same H H2 ∧ act k es x = none
theorem scRf : FnScope ["_law_house", "_law_deed", "_law_thing_here", "_law_word", "e"] ["_law_house", "_law_deed", "_law_thing_here", "_law_word"] (defScope sRf) := ⟨rfl, rfl, rfl, by decide +kernel, rfl, by decide +kernel, by decide +kernel⟩
theorem okRf (d : Df K mg "_law_refused_by_any" sRf ["_law_house", "_law_deed", "_law_thing_here", "_law_word"]) (dDo : Df K mg "_law_done" sDo ["_law_house", "_law_deed", "_law_thing_here"]) (G : Pg K mg C) : FnOk P w K mg base CX0 8 d.f d.fd ["_law_house", "_law_deed", "_law_thing_here", "_law_word"] (spRf C) := by
  have GDo : FnOk P w K mg base (CXE P w) 7 dDo.f dDo.fd ["_law_house", "_law_deed", "_law_thing_here"] (spDo G) := okDo dDo G
  refine d.F.ok scRf (fun vs H Q E h => ?_) (fun cdv A outer s H vs Q E hr h => ?_)
  · obtain ⟨_, _, _, _, _, _, rfl, _⟩ := h
    rfl
  · obtain ⟨h, d, p, es, k, x, rfl, k3, hs, hx, ha, q⟩ := h
    obtain ⟨f1, f2, f3, f4, f5, f6, f7, f8⟩ := rf_facts G k
    refine ⟨_, (pss_cons (ps_try (i := 4) (E := eRf G h k x es H) rfl rfl rfl scRf.nd rfl rfl G.X.xR.ex (by rfl) G.X.xR.m (fun pn xe hx => (pss_one (ps_expr (pe_callS GDo (hr.mono (by omega)) (by rfl) dDo.m dDo.F.kp dDo.b .nil hx (pa_cons (pv 0) (pa_cons (pv 1) (pa_cons (pv 2) pa_nil))))))) (fun ae => (pss_cons (ps_if (PW.pt (pw_or (pt_val (pe_callB call_isX (by rfl) G.T.isin boot_isinstance (pa_cons (pv 4) (pa_cons (pe_glob (v := .ref G.X.oT.C) (by rfl) G.X.oT.m rfl) pa_nil)))) (pw_or (pt_val (pe_callB call_isX (by rfl) G.T.isin boot_isinstance (pa_cons (pv 4) (pa_cons (pe_glob (v := .ref G.X.oF.C) (by rfl) G.X.oF.m rfl) pa_nil)))) (pw_or1 (pt_not (pt_val (pe_callB call_isX (by rfl) G.T.isin boot_isinstance (pa_cons (pv 4) (pa_cons (pe_bltn (v := .ty "ValueError") (by rfl) G.T.t_ValueError boot_ValueErrorX rfl) pa_nil))))))))) (pss_one (ps_ret pe_bl)) pss_nil)
      (pss_one (ps_ret (pe_and (pe_cmpR op_eq (pe_callB call_isX (by rfl) G.T.isin boot_isinstance (pa_cons (pv 4) (pa_cons (pe_glob (v := .ref G.X.xN.C) (by rfl) G.X.xN.m rfl) pa_nil))) (pe_cmpR op_eq (pv 3) pe_str (nomark _)) (nomark _)) (pe_one (pe_cmpR op_eq (pe_callB call_isX (by rfl) G.T.isin boot_isinstance (pa_cons (pv 4) (pa_cons (pe_glob (v := .ref G.X.xG.C) (by rfl) G.X.xG.m rfl) pa_nil))) (pe_cmpR op_eq (pv 3) pe_str (nomark _)) (nomark _)))))))))
      (pss_one (ps_ret pe_bl))), ?_⟩
    try dsimp only [cxOf]
    refine ⟨⟨_, rfl, _, rfl, _, rfl, h, d, p, es, k, x, rfl, k3, hs, hx, fun es2 ea => (by rw [ha] at ea; cases ea), fun ea H' s1 => ⟨rfl, rfl, rfl, s1, ea⟩⟩, ?_⟩
    rintro σ1 cls dd H1 ae ⟨rfl, rfl, rfl, s1, _⟩ hae
    refine ⟨rfC G k, rfl, f1, f2, ?_⟩
    have he : upd H1 ae (.ext (IsExc ae (.ref (rfC G k)) none)) ae = some (.ext (IsExc ae (.ref (rfC G k)) none)) := upd_same
    have sA : Same H (upd H1 ae (.ext (IsExc ae (.ref (rfC G k)) none))) := s1.trans (same_new hae)
    generalize upd H1 ae (.ext (IsExc ae (.ref (rfC G k)) none)) = HA at *
    refine ⟨_, rfl, ae, _, _, _, _, rfl, .own _, he, f3, f4, _, rfl, iteF ⟨_, rfl, ae, _, _, _, _, rfl, .own _, he, f3, f5, _, rfl, iteF ⟨_, rfl, ae, _, _, _, _, rfl, .ty _, he, f3, f6, _, rfl, iteF ?_⟩⟩⟩
    refine ⟨_, rfl, ae, _, _, _, _, rfl, .own _, he, f3, f7, _, rfl, rfl, rfl, _, rfl, ?_⟩
    rw [v_str, bl_dec, beq_self_eq_true]
    refine iteT ⟨_, rfl, ae, _, _, _, _, rfl, .own _, he, f3, f8, _, rfl, rfl, rfl, ?_⟩
    rw [v_str, bl_dec, beq_self_eq_true]
    exact q HA sA
theorem inV_strs (p : Str) : ∀ os : List Str, inV (.str p) (os.map V.str) = decide (p ∈ os)
  | [] => rfl
  | o :: os => by
    have h := inV_strs p os
    unfold inV at h ⊢
    rw [List.map_cons, List.any_cons, h]
    have e : eqV (.str o) (.str p) = decide (o = p) := rfl
    rw [e]
    by_cases q : o = p
    · subst q
      rw [decide_eq_true rfl, Bool.true_or, decide_eq_true (List.mem_cons_self ..)]
    · rw [decide_eq_false q, Bool.false_or]
      exact decide_eq_decide.mpr ⟨fun z => List.mem_cons_of_mem _ z, fun z => (List.mem_cons.mp z).resolve_left (Ne.symm q)⟩
theorem flat_strs : ∀ os : List Str, (os.map V.str).all flatV = true
  | [] => rfl
  | o :: os => by
    rw [List.map_cons, List.all_cons, flat_strs os]; rfl
theorem look_dec (es : Es) (z : Str) : (look es z).isSome = decide (z ∈ es.map (·.1)) := by
  by_cases h : z ∈ es.map (·.1)
  · rw [decide_eq_true h]; exact look_mem.mpr h
  · rw [decide_eq_false h]
    cases q : look es z with
    | none => rfl
    | some b => exact (h (look_mem.mp (by rw [q]; rfl))).elim
noncomputable def lookV (es : Es) : V → Option Bool | .str z => look es z | _ => none
noncomputable def du1 (k : Nat) (o : Option Bool) (n : Bool) : Bool := decide (k = 0) && (o.isSome || !n)
noncomputable def du2 (k : Nat) (o : Option Bool) : Bool := (decide (k = 1) && !(o == some true)) || (decide (k = 2) && !(o == some false))
noncomputable def du3 (k : Nat) (o : Option Bool) : Bool := decide (k = 3) && !o.isSome
theorem due_is {es : Es} {k : Nat} {x : V} (hg : ∀ z ∈ es.map (·.1), nm z = true) (k3 : k ≤ 3) : dueW k (act k es x) = if du1 k (lookV es x) (nmV x) = true then Str.ofString "name" else if du2 k (lookV es x) = true then Str.ofString "guest" else if du3 k (lookV es x) = true then Str.ofString "guest" else Str.ofString "done" := by
  have k4 : k = 0 ∨ k = 1 ∨ k = 2 ∨ k = 3 := by omega
  obtain ⟨z, rfl⟩ | ⟨e1, e2, e3⟩ : (∃ z, x = .str z) ∨ (act k es x = none ∧ lookV es x = none ∧ nmV x = false) := by cases x <;> first | exact .inl ⟨_, rfl⟩ | exact .inr ⟨rfl, rfl, rfl⟩
  · have hn : ∀ b, look es z = some b → nm z = true := fun b h => hg z (look_mem.mp (by rw [h]; rfl))
    show dueW k (actS k es z) = if du1 k (look es z) (nm z) = true then _ else if du2 k (look es z) = true then _ else if du3 k (look es z) = true then _ else _
    unfold actS
    cases hl : look es z with
    | none =>
      generalize nm z = n
      rcases k4 with rfl | rfl | rfl | rfl <;> cases n <;> rfl
    | some b =>
      rw [hn b hl]
      rcases k4 with rfl | rfl | rfl | rfl <;> cases b <;> rfl
  · rw [e1, e2, e3]
    rcases k4 with rfl | rfl | rfl | rfl <;> rfl
inductive I_spDu (vs : List V) (H : Hp) (Q : VK) : Prop
  | mk (nl ol hd : Addr) (ns : List Str) (es : Es) (k : Nat) (x : V) (q_1 : vs = [.ref nl, .ref ol, .ref hd, .int (k : Int), x]) (q_2 : k ≤ 3) (q_3 : H nl = some (.lst (ns.map V.str))) (q_4 : H ol = some (.lst ((es.map (·.1)).map V.str))) (q_5 : H hd = some (.dK (kvE es))) (q_6 : Th H x) (q_7 : ThN ns x) (q_8 : (∀ z ∈ es.map (·.1), nm z = true)) (q_9 : Q (.str (dueW k (act k es x))) H)
noncomputable def spDu : Sp := fun vs H Q _ => I_spDu  vs H Q
theorem scDu : FnScope ["_law_names_here", "_law_order", "_law_here", "_law_deed", "_law_thing_here", "_law_known"] ["_law_names_here", "_law_order", "_law_here", "_law_deed", "_law_thing_here"] (defScope sDu) := ⟨rfl, rfl, rfl, by decide +kernel, rfl, by decide +kernel, by decide +kernel⟩
theorem okDu (d : Df K mg "_law_due" sDu ["_law_names_here", "_law_order", "_law_here", "_law_deed", "_law_thing_here"]) (G : Pg K mg C) : FnOk P w K mg base CX0 1 d.f d.fd ["_law_names_here", "_law_order", "_law_here", "_law_deed", "_law_thing_here"] spDu := by
  refine d.F.ok scDu (fun vs H Q E h => ?_) (fun cdv A outer s H vs Q E hr h => ?_)
  · obtain ⟨_, _, _, _, _, _, _, rfl, _⟩ := h
    rfl
  · obtain ⟨nl, ol, hd, ns, es, k, x, rfl, k3, hnl, hol, hhd, hx, hN, hg, q⟩ := h
    have hu := hu_of hr
    obtain ⟨ty, t1, ks⟩ := hx.kit (K := K)
    refine ⟨_, (pss_cons (ps_set (i := 5) scDu.nd rfl (by first | exact Or.inl rfl | exact Or.inr rfl) (pe_and (pe_callB call_isT (by rfl) G.T.isin boot_isinstance (pa_cons (pv 4) (pa_cons (pe_bltn (v := .ty "str") (by rfl) G.T.t_str boot_str rfl) pa_nil))) (pe_one (pe_cmpR op_in_seq (pv 4) (pv 1) (by rfl)))))
      (pss_cons (ps_if (PW.pt (pw_and (pt_cmpR op_eq (pv 3) pe_int (nomark _)) (pw_and1 (PW.pt (pw_or (pt_val (pv 5)) (pw_or (pt_not (pt_val (pe_callB call_isT (by rfl) G.T.isin boot_isinstance (pa_cons (pv 4) (pa_cons (pe_bltn (v := .ty "str") (by rfl) G.T.t_str boot_str rfl) pa_nil))))) (pw_or1 (pt_cmpR op_notIn_seq (pv 4) (pv 0) (by rfl))))))))) (pss_one (ps_ret pe_str)) pss_nil)
      (pss_cons (ps_if (PW.pt (pw_or (PW.pt (pw_and (pt_cmpR op_eq (pv 3) pe_int (nomark _)) (pw_and1 (pt_not (PW.pt (pw_and (pt_val (pv 5)) (pw_and1 (pt_val (pe_dget hu (pv 2) (pv 4) (fun _ _ => rfl)))))))))) (pw_or1 (PW.pt (pw_and (pt_cmpR op_eq (pv 3) pe_int (nomark _)) (pw_and1 (pt_not (PW.pt (pw_and (pt_val (pv 5)) (pw_and1 (pt_not (pt_val (pe_dget hu (pv 2) (pv 4) (fun _ _ => rfl)))))))))))))) (pss_one (ps_ret pe_str)) pss_nil)
      (pss_cons (ps_if (PW.pt (pw_and (pt_cmpR op_eq (pv 3) pe_int (nomark _)) (pw_and1 (pt_not (pt_val (pv 5)))))) (pss_one (ps_ret pe_str)) pss_nil)
      (pss_one (ps_ret pe_str)))))), ?_⟩
    try dsimp only [cxOf]
    rw [due_is hg k3] at q
    obtain ⟨o, ho⟩ : ∃ o, o = lookV es x := ⟨_, rfl⟩
    rw [← ho] at q
    have hS : isS x = true → ∃ z, x = .str z := fun h => by cases x <;> first | exact ⟨_, rfl⟩ | cases h
    have hSf : ¬ isS x = true → o = none ∧ nmV x = false := fun h => by rw [ho]; cases x <;> first | exact ⟨rfl, rfl⟩ | exact absurd rfl h
    have dg : ∀ b, o = some b → DGet H hd x (some (.bl b)) := fun b hb => by
      have hs : isS x = true := by
        by_cases h : isS x = true
        · exact h
        · rw [(hSf h).1] at hb; cases hb
      obtain ⟨z, rfl⟩ := hS hs
      have dg := DGet.k (k := Sum.inr z) hhd
      have hb' : look es z = some b := (show o = look es z from ho).symm.trans hb
      rw [kvE_val, hb'] at dg
      exact dg
    have kd : ∀ j : Nat, decide (V.int (k : Int) = V.int ((j : Nat) : Int)) = decide (k = j) := fun j => by rw [int_dec]; exact decide_eq_decide.mpr ⟨fun h => by omega, fun h => by omega⟩
    refine cutK fun kk hkk => ?_
    have main : kk [some (.ref nl), some (.ref ol), some (.ref hd), some (.int (k : Int)), some x, some (.bl o.isSome)] H := by
      refine hkk _ _ ?_
      clear hkk kk
      refine if_ex (du1 k o (nmV x)) (fun Q' q' => ?_) (fun hb => ?_) (fun hb1 => ?_)
      · refine ⟨_, rfl, rfl, _, rfl, ?_⟩
        rw [show V.int 0 = V.int ((0 : Nat) : Int) from rfl, kd]
        refine ite2 (fun h0 => ⟨_, rfl, _, rfl, ?_⟩) (fun h0 => ?_)
        · have e0 : du1 k o (nmV x) = (o.isSome || !nmV x) := by unfold du1; rw [h0]; rfl
          rw [e0] at q'
          clear e0
          cases hk : o.isSome with
          | true =>
            rw [hk] at q'
            exact iteT q'
          | false =>
            rw [hk] at q'
            refine iteF ⟨_, rfl, x, ty, _, _, rfl, t1, ks, _, rfl, ?_⟩
            cases hs : isS x with
            | false =>
              rw [(hSf (by rw [hs]; exact Bool.false_ne_true)).2] at q'
              exact iteT q'
            | true =>
              obtain ⟨z, rfl⟩ := hS hs
              refine iteF ⟨_, rfl, _, rfl, nl, _, rfl, .inl (SqL.of hnl), rfl, flat_strs _, _, rfl, ?_⟩
              rw [if_pos rfl, inV_strs, ← hN z rfl]
              exact q'
        · have e0 : du1 k o (nmV x) = false := by unfold du1; rw [show decide (k = 0) = false by simpa using h0]; rfl
          rw [e0] at q'
          exact q'
      · rw [if_pos hb] at q
        exact q
      rw [hb1, if_neg Bool.false_ne_true] at q
      refine if_ex (du2 k o) (fun Q' q' => ?_) (fun hb => ?_) (fun hb2 => ?_)
      · unfold du2 at q'
        refine ⟨_, rfl, rfl, _, rfl, ?_⟩
        rw [show V.int 1 = V.int ((1 : Nat) : Int) from rfl, kd]
        refine ite2 (fun h1 => ⟨_, rfl, _, rfl, ?_⟩) (fun h1 => ?_)
        · rw [h1, show decide (k = 2) = false by simpa using (show k ≠ 2 by have := of_decide_eq_true h1; omega)] at q'
          cases o with
          | none => exact iteF (iteT q')
          | some b =>
            refine iteT ⟨_, rfl, _, rfl, hd, .bl b, rfl, dg b rfl, _, rfl, ?_⟩
            cases b with
            | false => exact iteT q'
            | true =>
              refine iteF ⟨_, rfl, rfl, _, rfl, ?_⟩
              rw [show V.int 2 = V.int ((2 : Nat) : Int) from rfl, kd]
              exact ite2 (fun h => absurd (of_decide_eq_true h) (by have := of_decide_eq_true h1; omega)) (fun _ => q')
        · rw [show decide (k = 1) = false by simpa using h1] at q'
          refine iteF ⟨_, rfl, rfl, _, rfl, ?_⟩
          rw [show V.int 2 = V.int ((2 : Nat) : Int) from rfl, kd]
          refine ite2 (fun h2 => ⟨_, rfl, _, rfl, ?_⟩) (fun h2 => ?_)
          · rw [h2] at q'
            cases o with
            | none => exact iteF q'
            | some b =>
              refine iteT ⟨_, rfl, _, rfl, hd, .bl b, rfl, dg b rfl, _, rfl, ?_⟩
              cases b <;> exact q'
          · rw [show decide (k = 2) = false by simpa using h2] at q'
            exact q'
      · rw [if_pos hb] at q
        exact q
      rw [hb2, if_neg Bool.false_ne_true] at q
      refine if_ex (du3 k o) (fun Q' q' => ?_) (fun hb => ?_) (fun hb3 => ?_)
      · unfold du3 at q'
        refine ⟨_, rfl, rfl, _, rfl, ?_⟩
        rw [show V.int 3 = V.int ((3 : Nat) : Int) from rfl, kd]
        refine ite2 (fun h3 => ⟨_, rfl, _, rfl, ?_⟩) (fun h3 => ?_)
        · rw [h3] at q'
          exact q'
        · rw [show decide (k = 3) = false by simpa using h3] at q'
          exact q'
      · rw [if_pos hb] at q
        exact q
      rw [hb3, if_neg Bool.false_ne_true] at q
      exact q
    clear hkk
    refine ⟨_, rfl, x, ty, _, _, rfl, t1, ks, _, rfl, ?_⟩
    cases hs : isS x with
    | false =>
      rw [(hSf (by rw [hs]; exact Bool.false_ne_true)).1] at main
      exact iteF main
    | true =>
      obtain ⟨z, rfl⟩ := hS hs
      refine iteT ⟨_, rfl, _, rfl, ol, _, rfl, .inl (SqL.of hol), rfl, flat_strs _, ?_⟩
      rw [if_neg Bool.false_ne_true, inV_strs, ← look_dec, ← show o = look es z from ho]
      exact main
end
section
variable {P : Program} {w : World} {K : PySem.W.Frag} {mg : Str → Option Value} {base : Heap} {C : Addr}
seal PA PE PS PSs PT PW
theorem act_some {es es' : Es} {k : Nat} {x : V} (k3 : k ≤ 3) (h : act k es x = some es') : ∃ z, x = .str z ∧ ((k = 0 ∧ look es z = none ∧ es' = putE es z true) ∨ (k = 1 ∧ look es z = some true ∧ es' = putE es z false) ∨ (k = 2 ∧ look es z = some false ∧ es' = putE es z true) ∨ (k = 3 ∧ es' = es)) := by
  cases x with
  | str z =>
    refine ⟨z, rfl, ?_⟩
    have h : actS k es z = some es' := h
    unfold actS at h
    split at h
    · cases h
    · split at h
      · rename_i hk
        split at h
        · rename_i hl
          cases h
          exact .inl ⟨hk, hl, rfl⟩
        · cases h
      · split at h
        · rename_i hk
          split at h
          · rename_i hl
            cases h
            exact .inr (.inl ⟨hk, hl, rfl⟩)
          · cases h
        · split at h
          · rename_i hk
            split at h
            · rename_i hl
              cases h
              exact .inr (.inr (.inl ⟨hk, hl, rfl⟩))
            · cases h
          · split at h
            · cases h
            · cases h
              exact .inr (.inr (.inr ⟨by omega, rfl⟩))
  | _ => cases h
set_option genInjectivity false in
set_option genSizeOf false in
structure Fr (C h d p nl ol hd sl : Addr) (ns : List Str) (xs : List V) (H : Hp) (es : Es) (ko : List Str) (eh : Es) : Prop where
  hs : Hs C h d p H es
  nl : H nl = some (.lst (ns.map V.str))
  ol : H ol = some (.lst (ko.map V.str))
  hd : H hd = some (.dK (kvE eh))
  sl : H sl = some (.lst xs)
section
variable {h d p nl ol hd sl : Addr} {ns : List Str} {xs : List V} {H H' : Hp} {es es' : Es} {ko : List Str} {eh : Es}
theorem Fr.same (f : Fr C h d p nl ol hd sl ns xs H es ko eh) (s : Same H H') : Fr C h d p nl ol hd sl ns xs H' es ko eh :=
  ⟨f.hs.same s, s _ _ f.nl, s _ _ f.ol, s _ _ f.hd, s _ _ f.sl⟩
theorem Fr.act (f : Fr C h d p nl ol hd sl ns xs H es ko eh) (n1 : hd ≠ d) (s : SameB d H H') (e : H' d = some (.dK (kvE es'))) (g : Gd es' 100) : Fr C h d p nl ol hd sl ns xs H' es' ko eh :=
  ⟨f.hs.put s e g, s _ _ (fun z => by have := f.nl; rw [z, f.hs.dic] at this; cases this) f.nl, s _ _ (fun z => by have := f.ol; rw [z, f.hs.dic] at this; cases this) f.ol, s _ _ n1 f.hd, s _ _ (fun z => by have := f.sl; rw [z, f.hs.dic] at this; cases this) f.sl⟩
theorem Fr.keepU {a : Addr} {o : HO} {es2 : Es} (f : Fr C h d p nl ol hd sl ns xs H es ko eh) (ha : a ≠ h) (hd' : a ≠ d) (hp : a ≠ p) : Hs C h d p (upd H a o) es := by
  obtain ⟨⟨dx, i⟩, e, l, g⟩ := f.hs
  exact ⟨⟨dx, by rw [upd_ne ha.symm]; exact i⟩, by rw [upd_ne hd'.symm]; exact e, by rw [upd_ne hp.symm]; exact l, g⟩
theorem Fr.order (f : Fr C h d p nl ol hd sl ns xs H es ko eh) (n2 : ol ≠ p) (n3 : ol ≠ nl) (n4 : ol ≠ sl) (z : Str) : Fr C h d p nl ol hd sl ns xs (upd H ol (.lst ((ko ++ [z]).map V.str))) es (ko ++ [z]) eh := by
  obtain ⟨dx, i⟩ := f.hs.ins
  refine ⟨f.keepU (es2 := es) (fun q => ?_) (fun q => ?_) n2, by rw [upd_ne n3.symm]; exact f.nl, upd_same, ?_, by rw [upd_ne n4.symm]; exact f.sl⟩
  · have := f.ol; rw [q, i] at this; cases this
  · have := f.ol; rw [q, f.hs.dic] at this; cases this
  · rw [upd_ne (fun q => by have := f.hd; rw [q, f.ol] at this; cases this)]; exact f.hd
theorem Fr.here (f : Fr C h d p nl ol hd sl ns xs H es ko eh) (n1 : hd ≠ d) (e2 : Es) : Fr C h d p nl ol hd sl ns xs (upd H hd (.dK (kvE e2))) es ko e2 := by
  obtain ⟨dx, i⟩ := f.hs.ins
  have ne : ∀ {a : Addr} {l : List V}, H a = some (.lst l) → a ≠ hd := fun {a l} e q => by rw [q, f.hd] at e; cases e
  refine ⟨f.keepU (es2 := es) (fun q => ?_) n1 (ne f.hs.pl).symm, by rw [upd_ne (ne f.nl)]; exact f.nl, by rw [upd_ne (ne f.ol)]; exact f.ol, upd_same, by rw [upd_ne (ne f.sl)]; exact f.sl⟩
  have := f.hd; rw [q, i] at this; cases this
theorem Fr.fresh (f : Fr C h d p nl ol hd sl ns xs H es ko eh) (s : Same H H') {l : Addr} {o : HO} (hl : H l = none) : Fr C h d p nl ol hd sl ns xs (upd H' l o) es ko eh :=
  f.same fun b u e => by rw [upd_ne (fun z => by rw [z, hl] at e; cases e)]; exact s b u e
end
theorem nm_ok {z : Str} (h : nm z = true) : okS z := okS_iff.mpr fun c hc => by
  unfold nm at h
  rw [Bool.and_eq_true] at h
  have := of_decide_eq_true (List.all_eq_true.mp h.2 c hc)
  have hall : ∀ c ∈ LET.cps.toList, c < 0x110000 := by decide +kernel
  exact hall c this
theorem gE_sh {es : Es} {n : Nat} (g : Gd es n) : SeqAt.shaped (.list (gE es)) = true := Sml.shaped (k := 3) (sml_list fun d hd => by
  obtain ⟨e, he, rfl⟩ := List.mem_map.mp hd
  refine sml_tup fun x hx => ?_
  simp only [List.mem_cons, List.not_mem_nil, or_false] at hx
  rcases hx with rfl | rfl
  · exact sml_str (nm_ok (g.nms _ (List.mem_map.mpr ⟨e, he, rfl⟩)))
  · exact sml_bool _) (by decide)
theorem GuL.rd {H : Hp} {l : Addr} {es : Es} (h : GuL H l es) : RdD K H (.ref l) (.list (gE es)) := by
  obtain ⟨ts, hl, pr⟩ := h
  refine .lst (SqL.of hl) ?_
  clear hl
  induction pr with
  | nil => exact .nil
  | cons a _ ih => exact .cons (.tup (SqT.of a) (.cons (.str _) (.cons (.bl _) .nil))) ih
theorem GuL.same {H H' : Hp} {l : Addr} {es : Es} (h : GuL H l es) (s : Same H H') : GuL H' l es := by
  obtain ⟨ts, hl, pr⟩ := h
  exact ⟨ts, s _ _ hl, Paired.mapP pr fun _ _ z => s _ _ z⟩
theorem kitBB (K : PySem.W.Frag) : PySem.W.kitOne K (.type "bool") (.type "bool") = some true := by kernel_rfl
theorem kitTT (K : PySem.W.Frag) : PySem.W.kitOne K (.type "tuple") (.type "tuple") = some true := by kernel_rfl
theorem kitLL (K : PySem.W.Frag) : PySem.W.kitOne K (.type "list") (.type "list") = some true := by kernel_rfl
theorem sq_keep {H H' : Hp} {a : Addr} {xs : List V} (k : ∀ o, H a = some o → H' a = some o) (h : SqL K H a xs) : SqL K H' a xs := by
  rcases h with (h | ⟨o, h⟩) | h
  · exact .inl (.inl (k _ h))
  · exact .inl (.inr ⟨o, k _ h⟩)
  · exact .inr h
theorem putE_new {es : Es} {z : Str} {b : Bool} (h : look es z = none) : putE es z b = es ++ [(z, b)] := by
  unfold putE
  rw [h]; rfl
theorem rfW_done (k : Nat) : decide (rfW k = Str.ofString "done") = false := by
  unfold rfW
  split
  · decide +kernel
  · decide +kernel
theorem k_dec (k j : Nat) : decide ((k : Int) = (j : Int)) = decide (k = j) := decide_eq_decide.mpr ⟨fun h => by omega, fun h => by omega⟩
theorem walk_order {te : TE} {fr : List (Str × Nat)} {σ : L2.St} {R : Hp → Prop} {D ol hd : Addr} {HA : Hp} {es : Es} (gd : Gd es 100) (fo : HA ol = some (.lst ((es.map (·.1)).map V.str))) (fh : HA hd = some (.dK (kvE es))) (hD : HA D = none)
    (hte : ∀ (e : Str × Bool) (H2 : Hp) (N : V → Hp → Prop), DGet H2 hd (.str e.1) (some (.bl e.2)) → (∀ t, H2 t = none → N (.ref t) (upd H2 t (.tup [.str e.1, .bl e.2]))) → te (some (.str e.1) :: slotsC fr σ) H2 N)
    (hR : ∀ H2, Same HA H2 → GuL H2 D es → R H2) : WalkN (Itl K ol) fr σ tNoTest te R D HA := by
  refine compN_list (xs := (es.map (·.1)).map V.str) (fun j ac H2 => H2 D = some (.lst ac) ∧ Same HA H2 ∧ ∃ us : List Addr, ac = us.map V.ref ∧ Paired (fun t e => H2 t = some (.tup [.str e.1, .bl e.2])) us (es.take j)) ⟨upd_same, same_new hD, [], rfl, .nil⟩ ?_ ?_ ?_
  · rintro j ac H2 hj ⟨h2, s2, us, rfl, pr⟩
    refine ⟨h2, small1000 ?_, SqL.of (s2 _ _ fo)⟩
    rw [List.length_map, Paired.length pr]
    exact Nat.le_trans (List.length_take_le' _ _) (Nat.le_trans gd.len (by decide))
  · rintro j y ac H2 N hy hN ⟨h2, s2, us, rfl, pr⟩
    rw [List.map_map, List.getElem?_map] at hy
    obtain ⟨e, he, rfl⟩ := Option.map_eq_some_iff.mp hy
    have dg := DGet.k (k := Sum.inr e.1) (s2 _ _ fh)
    rw [kvE_val, look_of gd.nd (List.mem_of_getElem? he)] at dg
    refine hte e H2 _ dg fun t ht => ⟨same_new ht _ _ h2, hN _ _ ⟨upd_same, same_upd (s2.trans (same_new ht)) hD, us ++ [t], by rw [List.map_append]; rfl, ?_⟩⟩
    rw [List.take_add_one, he]
    have kk : ∀ (u : Addr) (zs : List V), upd H2 t (.tup [.str e.1, .bl e.2]) u = some (.tup zs) → upd (upd H2 t (.tup [.str e.1, .bl e.2])) D (.lst (us.map V.ref ++ [.ref t])) u = some (.tup zs) := fun u zs z => by
      rw [upd_ne (fun y => ?_)]; exact z
      rw [y, same_new ht _ _ h2] at z; cases z
    exact pairedApp (Paired.mapP pr fun u e' z => kk _ _ (same_new ht _ _ z)) (.cons (kk _ _ upd_same) .nil)
  · rintro ac H2 ⟨h2, s2, us, rfl, pr⟩
    rw [List.length_map, List.length_map, List.take_length] at pr
    exact hR H2 s2 ⟨us, h2, pr⟩
theorem walk_all {te : TE} {fr : List (Str × Nat)} {σ : L2.St} {R : Hp → Prop} {D l : Addr} {HB : Hp} {es : Es} (gd : Gd es 100) (gl : GuL HB l es) (hD : HB D = none)
    (hte : ∀ (r : Addr) (e : Str × Bool) (H2 : Hp) (N : V → Hp → Prop), H2 r = some (.tup [.str e.1, .bl e.2]) → N (.bl true) H2 → te (some (.ref r) :: slotsC fr σ) H2 N)
    (hR : ∀ H2 n, Same HB H2 → H2 D = some (.lst ((List.replicate n true).map V.bl)) → R H2) : WalkN (Itl K l) fr σ tNoTest te R D HB := by
  obtain ⟨ts, hl, pts⟩ := gl
  refine compN_list (xs := ts.map V.ref) (fun j ac H2 => H2 D = some (.lst ac) ∧ Same HB H2 ∧ ac = (List.replicate j true).map V.bl) ⟨upd_same, same_new hD, rfl⟩ ?_ ?_ ?_
  · rintro j ac H2 hj ⟨h2, s2, rfl⟩
    rw [List.length_map, Paired.length pts] at hj
    exact ⟨h2, small1000 (by rw [List.length_map, List.length_replicate]; exact Nat.le_trans hj (Nat.le_trans gd.len (by decide))), SqL.of (s2 _ _ hl)⟩
  · rintro j y ac H2 N hy hN ⟨h2, s2, rfl⟩
    rw [List.getElem?_map] at hy
    obtain ⟨r, hr', rfl⟩ := Option.map_eq_some_iff.mp hy
    obtain ⟨e, he, hre⟩ := pairedGetL pts hr'
    refine hte r e H2 _ (s2 _ _ hre) ⟨h2, hN _ _ ⟨upd_same, same_upd s2 hD, ?_⟩⟩
    rw [List.replicate_succ', List.map_append]; rfl
  · rintro ac H2 ⟨h2, s2, rfl⟩
    exact hR H2 _ s2 h2
theorem all_true (n : Nat) : (List.replicate n true).all id = true := List.all_eq_true.mpr fun b hb => by rw [(List.mem_replicate.mp hb).2]; rfl
inductive I_spLaw (K : PySem.W.Frag) (vs : List V) (H : Hp) (Q : VK) : Prop
  | mk (a : Addr) (ns : List Int) (q_1 : vs = [.ref a]) (q_2 : SqL K H a (ns.map V.int)) (q_3 : ns.length ≤ 63) (q_4 : ∀ H', Q (.bl true) H')
noncomputable def spLaw (K : PySem.W.Frag) : Sp := fun vs H Q _ => I_spLaw K vs H Q
theorem scLaw : FnScope ["_law_script", "_law_names_here", "_law_house", "_law_order", "_law_here", "_law_k", "_law_cell", "_law_deed", "_law_thing_here", "_law_due_here", "_law_told"] ["_law_script"] (defScope sLaw) := ⟨rfl, rfl, rfl, by decide +kernel, rfl, by decide +kernel, by decide +kernel⟩
set_option maxHeartbeats 2000000 in
theorem okLaw (d : Df K mg "law" sLaw ["_law_script"]) (G : Pg K mg C) (dC : Df K mg "_law_cell_at" sCell ["_law_script", "_law_k"]) (dNa : Df K mg "_law_names" sNa ["_law_cell", "_law_many"]) (dTg : Df K mg "_law_thing" sTg ["_law_cell", "_law_names_here"]) (dDo : Df K mg "_law_done" sDo ["_law_house", "_law_deed", "_law_thing_here"]) (dSd : Df K mg "_law_said" sSd ["_law_house", "_law_deed", "_law_thing_here"]) (dRf : Df K mg "_law_refused_by_any" sRf ["_law_house", "_law_deed", "_law_thing_here", "_law_word"]) (dDu : Df K mg "_law_due" sDu ["_law_names_here", "_law_order", "_law_here", "_law_deed", "_law_thing_here"]) :
    FnOk P w K mg base CX0 10 d.f d.fd ["_law_script"] (spLaw K) := by
  have GC : FnOk P w K mg base CX0 1 dC.f dC.fd ["_law_script", "_law_k"] (spCell K) := okCell dC G
  have GNa : FnOk P w K mg base CX0 1 dNa.f dNa.fd ["_law_cell", "_law_many"] spNa := okNa dNa G
  have GTg : FnOk P w K mg base CX0 1 dTg.f dTg.fd ["_law_cell", "_law_names_here"] spTg := okTg dTg G
  have GSd : FnOk P w K mg base CX0 8 dSd.f dSd.fd ["_law_house", "_law_deed", "_law_thing_here"] (spSd C) := okSd dSd dDo G
  have GRf : FnOk P w K mg base CX0 8 dRf.f dRf.fd ["_law_house", "_law_deed", "_law_thing_here", "_law_word"] (spRf C) := okRf dRf dDo G
  have GDu : FnOk P w K mg base CX0 1 dDu.f dDu.fd ["_law_names_here", "_law_order", "_law_here", "_law_deed", "_law_thing_here"] spDu := okDu dDu G
  have GGu : FnOk P w K mg base CX0 1 G.dGu.f G.dGu.fd ["self"] (spGu C) := okGu G
  have GI : FnOk P w K mg base CX0 1 G.dI.f G.dI.fd ["self"] (spIni C) := okIni G
  refine d.F.ok scLaw (fun vs H Q E h => ?_) (fun cdv A outer s H vs Q E hr h => ?_)
  · obtain ⟨_, _, rfl, _⟩ := h
    rfl
  · obtain ⟨a, is, rfl, hS, l63, q⟩ := h
    have hu := hu_of hr
    have hu64 := hr.units
    refine ⟨_, (pss_cons (ps_set (i := 1) scLaw.nd rfl (by first | exact Or.inl rfl | exact Or.inr rfl) (pe_call GNa (hr.mono (by omega)) (by rfl) dNa.m dNa.F.kp dNa.b .nil pass0 (pa_cons (pe_call GC (hr.mono (by omega)) (by rfl) dC.m dC.F.kp dC.b .nil pass0 (pa_cons (pv 0) (pa_cons pe_int pa_nil))) (pa_cons pe_int pa_nil))))
      (pss_cons (ps_set (i := 2) scLaw.nd rfl (by first | exact Or.inl rfl | exact Or.inr rfl) (pe_make0 G.dI.m GI (hr.mono (by omega)) (by rfl) G.W.mgC G.dI.b .nil pass0))
      (pss_cons (ps_set (i := 3) scLaw.nd rfl (by first | exact Or.inl rfl | exact Or.inr rfl) (pe_lst pa_nil))
      (pss_cons (ps_set (i := 4) scLaw.nd rfl (by first | exact Or.inl rfl | exact Or.inr rfl) pe_dnewK)
      (pss_cons (ps_for PassesOwn.never rfl (pi_enum (by rfl) G.T.enumerate (pa_cons (pe_slice sl_list (pv 0) (po_some pe_int) (po_some pe_int)) pa_nil)) (pg_tup rfl (pgs_cons (pg_name (i := 5) scLaw.nd rfl (by first | exact Or.inl rfl | exact Or.inr rfl)) (pgs_cons (pg_name (i := 6) scLaw.nd rfl (by first | exact Or.inl rfl | exact Or.inr rfl)) pgs_nil))) (pss_cons (ps_set (i := 7) scLaw.nd rfl (by first | exact Or.inl rfl | exact Or.inr rfl) (pe_ix ix_list (pe_lst (pa_cons pe_int (pa_cons pe_int (pa_cons pe_int (pa_cons pe_int (pa_cons pe_int (pa_cons pe_int (pa_cons pe_int pa_nil)))))))) (pe_op op_mod (pv 6) pe_int) (fun _ _ => rfl)))
      (pss_cons (ps_set (i := 8) scLaw.nd rfl (by first | exact Or.inl rfl | exact Or.inr rfl) (pe_call GTg (hr.mono (by omega)) (by rfl) dTg.m dTg.F.kp dTg.b .nil pass0 (pa_cons (pe_op op_add (pe_op op_fdiv (pv 6) pe_int) (pe_op op_mul pe_int (pv 5))) (pa_cons (pv 1) pa_nil))))
      (pss_cons (ps_set (i := 9) scLaw.nd rfl (by first | exact Or.inl rfl | exact Or.inr rfl) (pe_call GDu (hr.mono (by omega)) (by rfl) dDu.m dDu.F.kp dDu.b .nil pass0 (pa_cons (pv 1) (pa_cons (pv 3) (pa_cons (pv 4) (pa_cons (pv 7) (pa_cons (pv 8) pa_nil)))))))
      (pss_cons (ps_if (pt_cmpR op_ne (pe_call GSd (hr.mono (by omega)) (by rfl) dSd.m dSd.F.kp dSd.b .nil pass0 (pa_cons (pv 2) (pa_cons (pv 7) (pa_cons (pv 8) pa_nil)))) (pv 9) (nomark _)) (pss_one (ps_ret pe_bl)) pss_nil)
      (pss_cons (ps_if (PW.pt (pw_and (pt_cmpR op_ne (pv 9) pe_str (nomark _)) (pw_and1 (pt_not (pt_val (pe_call GRf (hr.mono (by omega)) (by rfl) dRf.m dRf.F.kp dRf.b .nil pass0 (pa_cons (pv 2) (pa_cons (pv 7) (pa_cons (pv 8) (pa_cons (pv 9) pa_nil)))))))))) (pss_one (ps_ret pe_bl)) pss_nil)
      (pss_cons (ps_if (PW.pt (pw_and (pt_cmpR op_eq (pv 9) pe_str (nomark _)) (pw_and1 (pt_cmpR op_eq (pv 7) pe_int (nomark _))))) (pss_one (ps_expr (pe_bm PySem.F.plainAttrs_list PySem.F.slot_list_append PySem.F.type_list_append mt_append (pv 3) (pa_cons (pv 8) pa_nil)))) pss_nil)
      (pss_cons (ps_if (PW.pt (pw_and (pt_cmpR op_eq (pv 9) pe_str (nomark _)) (pw_and1 (pt_cmpR op_lt (pv 7) pe_int (nomark _))))) (pss_one (ps_dput hu (pv 4) (pv 8) (pe_cmpR op_ne (pv 7) pe_int (nomark _)) rfl)) pss_nil)
      (pss_cons (ps_set (i := 10) scLaw.nd rfl (by first | exact Or.inl rfl | exact Or.inr rfl) (pe_meth0 (pv 2) G.W.cl G.dGu.m GGu (hr.mono (by omega)) G.dGu.b .nil pass0))
      (pss_cons (ps_if (PW.pt (pw_or (pt_not (pt_val (pe_callB call_isT (by rfl) G.T.isin boot_isinstance (pa_cons (pv 10) (pa_cons (pe_bltn (v := .ty "list") (by rfl) G.T.t_list boot_list rfl) pa_nil))))) (pw_or1 (pt_cmpR (op_neD hu64) (pv 10) (pe_compN (compOkN (fr := [("_law_here", 4)])) rfl (pi_list (pv 3)) (fun _ _ _ => pts_nil) (fun _ _ _ => (pe_tup (pa_cons (pv 0) (pa_cons (pe_dget hu (pv 1) (pv 0) (fun _ _ => rfl)) pa_nil))))) (nomark _))))) (pss_one (ps_ret pe_bl)) pss_nil)
      (pss_cons (ps_if (pt_not (pt_val (pe_callB (call_allB rfl) (by rfl) G.T.all boot_all (pa_cons (pe_compN (compOkN (fr := [])) rfl (pi_list (pv 10)) (fun _ _ _ => pts_nil) (fun _ _ _ => (pe_and (pe_callB (call_isTK (K := K)) (by rfl) G.T.isin boot_isinstance (pa_cons (pv 0) (pa_cons (pe_bltn (v := .ty "tuple") (by rfl) G.T.t_tuple boot_tuple rfl) pa_nil))) (pe_one (pe_callB (call_isTK (K := K)) (by rfl) G.T.isin boot_isinstance (pa_cons (pe_ix (ix_tupK (K := K)) (pv 0) pe_int (fun _ _ => rfl)) (pa_cons (pe_bltn (v := .ty "bool") (by rfl) G.T.t_bool boot_bool rfl) pa_nil))))))) pa_nil)))) (pss_one (ps_ret pe_bl)) pss_nil)
      (pss_one (ps_expr (pe_bm PySem.F.plainAttrs_list PySem.F.slot_list_append PySem.F.type_list_append mt_append (pv 10) (pa_cons (pe_tup (pa_cons pe_str (pa_cons pe_bl pa_nil))) pa_nil)))))))))))))))
      (pss_one (ps_ret (pe_cmpR (op_eqD hu64) (pe_meth0 (pv 2) G.W.cl G.dGu.m GGu (hr.mono (by omega)) G.dGu.b .nil pass0) (pe_compN (compOkN (fr := [("_law_here", 4)])) rfl (pi_list (pv 3)) (fun _ _ _ => pts_nil) (fun _ _ _ => (pe_tup (pa_cons (pv 0) (pa_cons (pe_dget hu (pv 1) (pv 0) (fun _ _ => rfl)) pa_nil))))) (nomark _))))))))), ?_⟩
    try dsimp only [cxOf]
    refine cutK fun kk hkk => ?_
    refine ⟨_, rfl, a, is, _, rfl, hS, (by decide), fun c0 => ⟨c0, rfl, fun nl ns H1 s1 hn1 hnl ln hg => hkk _ _ ?_⟩⟩
    clear hkk kk
    refine cutK fun kk hkk => ?_
    refine fun h dx hh hdx ne => ⟨h, dx, rfl, upd_same, fun dd p H2 k2 hdn hpn hs => ⟨rfl, hkk _ _ ?_⟩⟩
    clear hkk kk
    have keep1 : ∀ b o, H1 b = some o → H2 b = some o := fun b o e => by
      have e1 := ne_of_none e hh
      exact k2 _ _ e1 (by rw [upd_ne e1, upd_ne (ne_of_none e hdx)]; exact e)
    have hnl2 := keep1 _ _ hnl
    have hS2 : SqL K H2 a (is.map V.int) := sq_keep (fun o e => keep1 _ _ (s1 _ _ e)) hS
    refine cutK fun kk hkk => ?_
    refine ⟨Nat.zero_le _, fun ol hol => hkk _ _ ?_⟩
    clear hkk kk
    refine cutK fun kk hkk => ?_
    refine fun hd hhd => hkk _ _ ?_
    clear hkk kk
    have s3 : Same H2 (upd (upd H2 ol (.lst [])) hd (.dK [])) := (same_new hol).trans (same_new hhd)
    have n1 : hd ≠ dd := (ne_of_none (same_new hol _ _ hs.dic) hhd).symm
    have n2 : ol ≠ p := (ne_of_none hs.pl hol).symm
    have n3 : ol ≠ nl := (ne_of_none hnl2 hol).symm
    have ho3 : upd (upd H2 ol (.lst [])) hd (.dK []) ol = some (.lst []) := same_new hhd _ _ upd_same
    have hh3 : upd (upd H2 ol (.lst [])) hd (.dK []) hd = some (.dK []) := upd_same
    generalize upd (upd H2 ol (.lst [])) hd (.dK []) = H3 at *
    refine cutK fun kk hkk => ?_
    refine ⟨_, rfl, _, rfl, _, rfl, a, _, rfl, sq_keep (fun o e => s3 _ _ e) hS2, fun sl hsl => ?_⟩
    have n4 : ol ≠ sl := ne_of_none ho3 hsl
    have hxs : ∀ x ∈ cutV (is.map V.int) (some 1) (some 41), ∃ c : Int, x = .int c := fun x hx => by
      unfold cutV at hx
      obtain ⟨c, _, e⟩ := List.mem_map.mp (List.mem_of_mem_drop (List.mem_of_mem_take hx))
      exact ⟨c, e.symm⟩
    have lx : (cutV (is.map V.int) (some 1) (some 41)).length ≤ 63 := Nat.le_trans (cutV_length ..) (by rw [List.length_map]; exact l63)
    generalize cutV (is.map V.int) (some 1) (some 41) = xs at *
    have s4 := same_new (o := .lst xs) hsl
    have hsl4 : upd H3 sl (.lst xs) sl = some (.lst xs) := upd_same
    generalize upd H3 sl (.lst xs) = H4 at *
    refine ⟨sl, xs, rfl, hsl4, for_enum (xs := xs) (fun i σ H5 => ∃ (x5 x6 x7 x8 x9 x10 : Option V) (es : Es), σ = [some (.ref a), some (.ref nl), some (.ref h), some (.ref ol), some (.ref hd), x5, x6, x7, x8, x9, x10] ∧ Fr C h dd p nl ol hd sl ns xs H5 es (es.map (·.1)) es ∧ Gd es i)
      ⟨none, none, none, none, none, none, [], rfl, ⟨(hs.same s3).same s4, s4 _ _ (s3 _ _ hnl2), s4 _ _ ho3, s4 _ _ hh3, hsl4⟩, ⟨(fun _ z => nomatch z), List.nodup_nil, Nat.le_refl _⟩⟩ ?_ ?_ ?_⟩
    · rintro i σ H5 hi ⟨_, _, _, _, _, _, es, rfl, fr, _⟩
      exact SqL.of fr.sl
    · rintro i y σ H5 pt hy ⟨x5, x6, x7, x8, x9, x10, es, rfl, fr, gd⟩ hpt
      obtain ⟨c, rfl⟩ := hxs y (List.mem_of_getElem? hy)
      have il : i < xs.length := (List.getElem?_eq_some_iff.mp hy).1
      have fr1 := fr.same (same_new (o := .tup [.int (i : Int), .int c]) hpt)
      have hp1 : upd H5 pt (.tup [.int (i : Int), .int c]) pt = some (.tup [.int (i : Int), .int c]) := upd_same
      generalize upd H5 pt (.tup [.int (i : Int), .int c]) = H6 at *
      refine ⟨pt, _, rfl, SqT.of hp1, rfl, _, _, rfl, _, _, rfl, rfl, ?_⟩
      clear hkk
      refine cutK fun kk hkk => ?_
      refine ⟨(by show 7 ≤ sizeLine; decide), fun dl hdl => ?_⟩
      obtain ⟨y, hy7, ey⟩ := atI_mem (xs := [V.int 0, .int 0, .int 0, .int 1, .int 1, .int 2, .int 3]) (i := c % 7) (Int.emod_nonneg _ (by decide)) (by have := Int.emod_lt_of_pos c (show (0 : Int) < 7 by decide); simpa using this)
      obtain ⟨k, k3, rfl⟩ : ∃ k : Nat, k ≤ 3 ∧ y = .int (k : Int) := by
        simp only [List.mem_cons, List.not_mem_nil, or_false] at hy7
        rcases hy7 with rfl | rfl | rfl | rfl | rfl | rfl | rfl
        · exact ⟨0, by decide, rfl⟩
        · exact ⟨0, by decide, rfl⟩
        · exact ⟨0, by decide, rfl⟩
        · exact ⟨1, by decide, rfl⟩
        · exact ⟨1, by decide, rfl⟩
        · exact ⟨2, by decide, rfl⟩
        · exact ⟨3, by decide, rfl⟩
      refine ⟨_, rfl, _, _, rfl, rfl, (by show (0 : Int) < 7; decide), dl, _, _, _, rfl, rfl, SqL.of upd_same, ey, hkk _ _ ?_⟩
      clear hkk kk
      have fr2 := fr1.same (same_new (o := .lst [V.int 0, .int 0, .int 0, .int 1, .int 1, .int 2, .int 3]) hdl)
      generalize upd H6 dl (.lst [V.int 0, .int 0, .int 0, .int 1, .int 1, .int 2, .int 3]) = H7 at *
      refine cutK fun kk hkk => ?_
      refine ⟨_, rfl, _, _, rfl, rfl, ⟨by decide, by decide⟩, _, rfl, _, _, rfl, rfl, .inl ⟨by decide, by decide⟩, _, _, rfl, rfl, _, rfl, _, nl, ns, rfl, fr2.nl, ln, hg, fun x H8 s8 th tn => hkk _ _ ?_⟩
      clear hkk kk
      have fr3 := fr2.same s8
      refine cutK fun kk hkk => ?_
      refine ⟨_, rfl, _, rfl, _, rfl, _, rfl, _, rfl, nl, ol, hd, ns, es, k, x, rfl, k3, fr3.nl, fr3.ol, fr3.hd, th, tn, gd.nms, hkk _ _ ?_⟩
      clear hkk kk
      obtain ⟨es5, he5⟩ : ∃ es5, es5 = (act k es x).getD es := ⟨_, rfl⟩
      have g5 : Gd es5 (i + 1) := by
        cases ha : act k es x with
        | none => rw [he5, ha]; exact ⟨gd.nms, gd.nd, Nat.le_succ_of_le gd.len⟩
        | some es' => rw [he5, ha]; exact gd.act ha
      have g100 : Gd es5 100 := ⟨g5.nms, g5.nd, Nat.le_trans g5.len (by omega)⟩
      try dsimp only [gName]
      refine if_no (fun H9 => Fr C h dd p nl ol hd sl ns xs H9 es5 (es.map (·.1)) es ∧ (act k es x = none → Th H9 x)) (fun Q' k' => ?_) ?_
      · refine ⟨_, rfl, _, rfl, _, rfl, h, dd, p, es, k, x, rfl, k3, fr3.hs, th, fun es' ea H9 sb e9 => ⟨_, rfl, rfl, _, rfl, ?_⟩, fun ea H9 s9 => ⟨_, rfl, rfl, _, rfl, ?_⟩⟩
        · rw [v_str, ea, decide_eq_true (show Str.ofString "done" = dueW k (some es') from rfl)]
          have : es' = es5 := by rw [he5, ea]; rfl
          subst this
          exact k' H9 ⟨fr3.act n1 sb e9 g100, fun z => by rw [ea] at z; cases z⟩
        · rw [v_str, ea, decide_eq_true (show rfW k = dueW k none from rfl)]
          have : es = es5 := by rw [he5, ea]; rfl
          subst this
          exact k' H9 ⟨fr3.same s9, fun _ => th.same s9⟩
      rintro H9 ⟨fr4, th4⟩
      refine if_no (fun H' => Fr C h dd p nl ol hd sl ns xs H' es5 (es.map (·.1)) es) (fun Q' k' => ?_) ?_
      · refine ⟨_, rfl, rfl, _, rfl, ?_⟩
        rw [v_str]
        cases ha : act k es x with
        | some es' =>
          rw [decide_eq_true (show dueW k (some es') = Str.ofString "done" from rfl)]
          exact iteF (k' H9 fr4)
        | none =>
          rw [show dueW k none = rfW k from rfl, rfW_done]
          have : es = es5 := by rw [he5, ha]; rfl
          subst this
          exact iteT ⟨_, rfl, _, rfl, _, rfl, _, rfl, h, dd, p, es, k, x, rfl, k3, fr4.hs, th4 ha, ha, fun H' s' => ⟨_, rfl, k' H' (fr4.same s')⟩⟩
      rintro H10 fr5
      refine ifP_exact ((act k es x).isSome && decide (k = 0)) (fun σ' H' => σ' = [some (.ref a), some (.ref nl), some (.ref h), some (.ref ol), some (.ref hd), some (.int (i : Int)), some (.int c), some (.int (k : Int)), some x, some (.str (dueW k (act k es x))), x10] ∧ Fr C h dd p nl ol hd sl ns xs H' es5 (es5.map (·.1)) es) (fun Q' q' => ?_) (fun hc D' kk => ?_) (fun hc => ?_) ?_
      · refine ⟨_, rfl, rfl, _, rfl, ?_⟩
        rw [v_str]
        cases ha : act k es x with
        | some es' =>
          rw [ha] at q'
          rw [decide_eq_true (show dueW k (some es') = Str.ofString "done" from rfl)]
          refine iteT ⟨_, rfl, rfl, _, rfl, ?_⟩
          rw [int_dec, show ((0 : Int)) = ((0 : Nat) : Int) from rfl, k_dec]
          exact q'
        | none =>
          rw [ha] at q'
          rw [show dueW k none = rfW k from rfl, rfW_done]
          exact iteF q'
      · rw [Bool.and_eq_true] at hc
        obtain ⟨es', ha⟩ := Option.isSome_iff_exists.mp hc.1
        have hk0 := of_decide_eq_true hc.2
        obtain ⟨z, rfl, ⟨_, hl, e'⟩ | ⟨e0, _⟩ | ⟨e0, _⟩ | ⟨e0, _⟩⟩ := act_some k3 ha
        · have e5 : es5 = es ++ [(z, true)] := by rw [he5, ha, ← putE_new hl, ← e']; rfl
          refine ⟨_, rfl, .inl ⟨rfl, _, SqL.of fr5.ol⟩, _, rfl, ol, _, _, rfl, rfl, fr5.ol, small1000 (by have := gd.len; rw [List.length_map, List.length_map]; omega), kk _ _ ⟨rfl, ?_⟩⟩
          have f := fr5.order n2 n3 n4 z
          rw [List.map_append] at f
          rw [show es5.map (·.1) = es.map (·.1) ++ [z] by rw [e5, List.map_append]; rfl]
          exact f
        · omega
        · omega
        · omega
      · refine ⟨rfl, ?_⟩
        have ek : es5.map (·.1) = es.map (·.1) := by
          cases ha : act k es x with
          | none => rw [he5, ha]; rfl
          | some es' =>
            rw [ha] at hc
            have hk0 : k ≠ 0 := fun z => by rw [decide_eq_true z] at hc; cases hc
            obtain ⟨z, rfl, ⟨e0, _⟩ | ⟨_, hl, e'⟩ | ⟨_, hl, e'⟩ | ⟨_, e'⟩⟩ := act_some k3 ha
            · omega
            · rw [he5, ha, Option.getD_some, e', putE_keys (by rw [hl]; rfl)]
            · rw [he5, ha, Option.getD_some, e', putE_keys (by rw [hl]; rfl)]
            · rw [he5, ha, Option.getD_some, e']
        rw [ek]; exact fr5
      rintro _ H11 ⟨rfl, fr6⟩
      refine ifP_exact ((act k es x).isSome && decide ((k : Int) < 3)) (fun σ' H' => σ' = [some (.ref a), some (.ref nl), some (.ref h), some (.ref ol), some (.ref hd), some (.int (i : Int)), some (.int c), some (.int (k : Int)), some x, some (.str (dueW k (act k es x))), x10] ∧ Fr C h dd p nl ol hd sl ns xs H' es5 (es5.map (·.1)) es5) (fun Q' q' => ?_) (fun hc D' kk => ?_) (fun hc => ?_) ?_
      · refine ⟨_, rfl, rfl, _, rfl, ?_⟩
        rw [v_str]
        cases ha : act k es x with
        | some es' =>
          rw [ha] at q'
          rw [decide_eq_true (show dueW k (some es') = Str.ofString "done" from rfl)]
          exact iteT ⟨_, rfl, _, _, rfl, rfl, _, rfl, q'⟩
        | none =>
          rw [ha] at q'
          rw [show dueW k none = rfW k from rfl, rfW_done]
          exact iteF q'
      · rw [Bool.and_eq_true] at hc
        obtain ⟨es', ha⟩ := Option.isSome_iff_exists.mp hc.1
        have hk3 := of_decide_eq_true hc.2
        obtain ⟨z, rfl, hcase⟩ := act_some k3 ha
        have e5 : es5 = putE es z (!decide (k = 1)) := by
          rw [he5, ha, Option.getD_some]
          rcases hcase with ⟨e0, _, e'⟩ | ⟨e0, _, e'⟩ | ⟨e0, _, e'⟩ | ⟨e0, _⟩
          · rw [e', e0]; rfl
          · rw [e', e0]; rfl
          · rw [e', e0]; rfl
          · omega
        refine ⟨_, rfl, rfl, _, rfl, _, rfl, hd, _, rfl, DPut.k (k := Sum.inr z) fr6.hd (by rw [kvE_len]; exact small1000 (by have := gd.len; omega)), kk _ _ ⟨rfl, ?_⟩⟩
        rw [int_dec, show ((1 : Int)) = ((1 : Nat) : Int) from rfl, k_dec, kvE_put, ← e5]
        exact fr6.here n1 es5
      · refine ⟨rfl, ?_⟩
        have ek : es5 = es := by
          cases ha : act k es x with
          | none => rw [he5, ha]; rfl
          | some es' =>
            rw [ha] at hc
            have hk0 : ¬ (k : Int) < 3 := fun z => by rw [decide_eq_true z] at hc; cases hc
            obtain ⟨z, rfl, ⟨e0, _⟩ | ⟨e0, _⟩ | ⟨e0, _⟩ | ⟨_, e'⟩⟩ := act_some k3 ha
            · omega
            · omega
            · omega
            · rw [he5, ha, Option.getD_some, e']
        rw [ek] at fr6 ⊢; exact fr6
      rintro _ H12 ⟨rfl, fr7⟩
      obtain ⟨dx7, hi7⟩ := fr7.hs.ins
      refine cutK fun kk hkk => ?_
      refine ⟨_, rfl, h, dx7, _, rfl, hi7, rfl, h, dd, p, es5, rfl, fr7.hs, fun l HA sA hl gl => hkk _ _ ?_⟩
      clear hkk kk
      have frA := fr7.same sA
      have sh := gE_sh g5
      obtain ⟨ts, hlA, pts⟩ := id gl
      try dsimp only [gName]
      refine if_no (fun H' => Same HA H') (fun Q' k' => ?_) ?_
      · refine ⟨_, rfl, _, _, _, _, rfl, .lst hlA, kitLL K, _, rfl, iteF ⟨_, rfl, _, rfl, ol, rfl, ⟨_, SqL.of frA.ol⟩, fun D hD => walk_order frA.hs.gd frA.ol frA.hd hD (fun e H2 N dg hN => ⟨_, rfl, _, rfl, _, rfl, hd, .bl e.2, rfl, dg, (by show 2 ≤ sizeLine; decide), hN⟩) fun H2 s2 gu => ⟨_, _, (gl.same s2).rd, gu.rd, sh, sh, _, rfl, ?_⟩⟩⟩
        rw [shaped_refl sh]
        exact k' H2 s2
      rintro HB sB
      have hlB := sB _ _ hlA
      refine if_no (fun H' => Same HA H') (fun Q' k' => ?_) ?_
      · refine ⟨_, rfl, l, rfl, ⟨_, SqL.of hlB⟩, fun D hD => walk_all frA.hs.gd (gl.same sB) hD (fun r e H2 N hr2 hN => ⟨_, rfl, _, _, _, _, rfl, .tup hr2, kitTT K, _, rfl, iteT ⟨_, rfl, r, _, _, _, rfl, rfl, SqT.of hr2, rfl, _, _, _, _, rfl, .bl _, kitBB K, hN⟩⟩) fun H2 n s2 h2 => ⟨D, _, rfl, SqL.of h2, _, rfl, ?_⟩⟩
        rw [all_true]
        exact k' H2 (sB.trans s2)
      rintro HC sC
      refine ⟨_, rfl, .inl ⟨rfl, _, SqL.of (sC _ _ hlA)⟩, (by show 2 ≤ sizeLine; decide), fun t ht => ⟨l, _, _, rfl, rfl, same_new ht _ _ (sC _ _ hlA), ?_, ?_⟩⟩
      · have := g5.len
        exact small1000 (by rw [List.length_map, Paired.length pts]; omega)
      · exact ⟨_, _, _, _, _, _, es5, rfl, fr7.fresh (sA.trans (sC.trans (same_new ht))) hl, g5⟩
    · rintro σ HE ⟨x5, x6, x7, x8, x9, x10, es, rfl, fr, gd⟩
      refine hkk _ _ ?_
      clear hkk kk
      obtain ⟨dx7, hi7⟩ := fr.hs.ins
      refine ⟨_, rfl, h, dx7, _, rfl, hi7, rfl, h, dd, p, es, rfl, fr.hs, fun l HA sA hl gl => ?_⟩
      have frA := fr.same sA
      have sh := gE_sh gd
      refine ⟨_, rfl, ol, rfl, ⟨_, SqL.of frA.ol⟩, fun D hD => walk_order frA.hs.gd frA.ol frA.hd hD (fun e H2 N dg hN => ⟨_, rfl, _, rfl, _, rfl, hd, .bl e.2, rfl, dg, (by show 2 ≤ sizeLine; decide), hN⟩) fun H2 s2 gu => ⟨_, _, (gl.same s2).rd, gu.rd, sh, sh, ?_⟩⟩
      rw [shaped_refl sh]
      exact q H2
end
theorem lex_s {us : List Value} {n : Nat} (h : us.length = n + 1) : ∃ a r, us = a :: r ∧ r.length = n := by
  cases us with
  | nil => cases h
  | cons a r => exact ⟨a, r, rfl, Nat.succ.inj h⟩
theorem lex_1 {us : List Value} (h : us.length = 1) : ∃ a0, us = [a0] := by
  obtain ⟨a, r, rfl, h'⟩ := lex_s h
  obtain rfl := List.eq_nil_of_length_eq_zero h'
  exact ⟨a, rfl⟩
theorem lex_2 {us : List Value} (h : us.length = 2) : ∃ a0 a1, us = [a0, a1] := by
  obtain ⟨a, r, rfl, h'⟩ := lex_s h
  obtain ⟨a0, rfl⟩ := lex_1 h'
  exact ⟨a, a0, rfl⟩
theorem lex_3 {us : List Value} (h : us.length = 3) : ∃ a0 a1 a2, us = [a0, a1, a2] := by
  obtain ⟨a, r, rfl, h'⟩ := lex_s h
  obtain ⟨a0, a1, rfl⟩ := lex_2 h'
  exact ⟨a, a0, a1, rfl⟩
theorem lex_4 {us : List Value} (h : us.length = 4) : ∃ a0 a1 a2 a3, us = [a0, a1, a2, a3] := by
  obtain ⟨a, r, rfl, h'⟩ := lex_s h
  obtain ⟨a0, a1, a2, rfl⟩ := lex_3 h'
  exact ⟨a, a0, a1, a2, rfl⟩
theorem lex_5 {us : List Value} (h : us.length = 5) : ∃ a0 a1 a2 a3 a4, us = [a0, a1, a2, a3, a4] := by
  obtain ⟨a, r, rfl, h'⟩ := lex_s h
  obtain ⟨a0, a1, a2, a3, rfl⟩ := lex_4 h'
  exact ⟨a, a0, a1, a2, a3, rfl⟩
theorem sub_mro {K : PySem.W.Frag} {C D : Addr} {b : Bool} (h : PySem.W.mroIn K C (.ref D) = some b) : subK K C D = b := by
  obtain ⟨cd, e, q⟩ := Option.bind_eq_some_iff.mp h
  split at q
  · cases q
  · unfold subK
    rw [e]
    exact Option.some.inj q
theorem cls_mro {K : PySem.W.Frag} {C : Addr} {v : Value} {b : Bool} (h : PySem.W.mroIn K C v = some b) : (PySem.W.clsIn K C).isSome = true := by
  obtain ⟨cd, e, _⟩ := Option.bind_eq_some_iff.mp h
  rw [e]; rfl
theorem all_mk {l : PySem.W.OpenLaw} {w : World} {K : PySem.W.Frag} {h : Heap} {mg : Str → Option Value} {fa : Addr} (X : K.In h) (G : h.Ns mainGlobals mg) (hfa : mg "law" = some (.ref fa))
    {f0 : Addr} {od0 an0 : Option Addr} {sl0 : Array (Option Value)} {oc0 kV0 dc0 pm0 cd0 ct0 : Value}
    {f1 : Addr} {od1 an1 : Option Addr} {sl1 : Array (Option Value)} {oc1 kV1 dc1 pm1 cd1 ct1 : Value}
    {f2 : Addr} {od2 an2 : Option Addr} {sl2 : Array (Option Value)} {oc2 kV2 dc2 pm2 cd2 ct2 : Value}
    {f3 : Addr} {od3 an3 : Option Addr} {sl3 : Array (Option Value)} {oc3 kV3 dc3 pm3 cd3 ct3 : Value}
    {f4 : Addr} {od4 an4 : Option Addr} {sl4 : Array (Option Value)} {oc4 kV4 dc4 pm4 cd4 ct4 : Value}
    {f5 : Addr} {od5 an5 : Option Addr} {sl5 : Array (Option Value)} {oc5 kV5 dc5 pm5 cd5 ct5 : Value}
    {f6 : Addr} {od6 an6 : Option Addr} {sl6 : Array (Option Value)} {oc6 kV6 dc6 pm6 cd6 ct6 : Value}
    {f7 : Addr} {od7 an7 : Option Addr} {sl7 : Array (Option Value)} {oc7 kV7 dc7 pm7 cd7 ct7 : Value}
    {f8 : Addr} {od8 an8 : Option Addr} {sl8 : Array (Option Value)} {oc8 kV8 dc8 pm8 cd8 ct8 : Value}
    {f9 : Addr} {od9 an9 : Option Addr} {sl9 : Array (Option Value)} {oc9 kV9 dc9 pm9 cd9 ct9 : Value}
    {f10 : Addr} {od10 an10 : Option Addr} {sl10 : Array (Option Value)} {oc10 kV10 dc10 pm10 cd10 ct10 : Value}
    {f11 : Addr} {od11 an11 : Option Addr} {sl11 : Array (Option Value)} {oc11 kV11 dc11 pm11 cd11 ct11 : Value}
    {f12 : Addr} {od12 an12 : Option Addr} {sl12 : Array (Option Value)} {oc12 kV12 dc12 pm12 cd12 ct12 : Value}
    {f13 : Addr} {od13 an13 : Option Addr} {sl13 : Array (Option Value)} {oc13 kV13 dc13 pm13 cd13 ct13 : Value}
    {f14 : Addr} {od14 an14 : Option Addr} {sl14 : Array (Option Value)} {oc14 kV14 dc14 pm14 cd14 ct14 : Value}
    {f15 : Addr} {od15 an15 : Option Addr} {sl15 : Array (Option Value)} {oc15 kV15 dc15 pm15 cd15 ct15 : Value}
    {tk0 : Tok}
    {tk1 : Tok}
    (a0 : PySem.W.nsIn K mainGlobals "is_name" = some (some (.ref f0))) (l0 : K.lookup f0 = some ⟨oc0, od0, .func (PySem.W.fnOf "is_name" "is_name" (defArgs sNm) (defBody sNm) (defScope sNm) .none kV0 dc0 pm0 an0 cd0 ct0), sl0⟩) (c0 : PySem.W.codeIn K cd0 "is_name" = true) (k0 : PySem.W.keepIn K (.ref f0) = true)
    (a1 : PySem.W.nsIn K mainGlobals "is_rest" = some (some (.ref f1))) (l1 : K.lookup f1 = some ⟨oc1, od1, .func (PySem.W.fnOf "is_rest" "is_rest" (defArgs sIr) (defBody sIr) (defScope sIr) .none kV1 dc1 pm1 an1 cd1 ct1), sl1⟩) (c1 : PySem.W.codeIn K cd1 "is_rest" = true) (k1 : PySem.W.keepIn K (.ref f1) = true)
    (a2 : PySem.W.nsIn K mainGlobals "is_at" = some (some (.ref f2))) (l2 : K.lookup f2 = some ⟨oc2, od2, .func (PySem.W.fnOf "is_at" "is_at" (defArgs sIa) (defBody sIa) (defScope sIa) .none kV2 dc2 pm2 an2 cd2 ct2), sl2⟩) (c2 : PySem.W.codeIn K cd2 "is_at" = true) (k2 : PySem.W.keepIn K (.ref f2) = true)
    (a3 : PySem.W.nsIn K mainGlobals "points_at" = some (some (.ref f3))) (l3 : K.lookup f3 = some ⟨oc3, od3, .func (PySem.W.fnOf "points_at" "points_at" (defArgs sPa) (defBody sPa) (defScope sPa) .none kV3 dc3 pm3 an3 cd3 ct3), sl3⟩) (c3 : PySem.W.codeIn K cd3 "points_at" = true) (k3 : PySem.W.keepIn K (.ref f3) = true)
    (a4 : PySem.W.nsIn K mainGlobals "side_at" = some (some (.ref f4))) (l4 : K.lookup f4 = some ⟨oc4, od4, .func (PySem.W.fnOf "side_at" "side_at" (defArgs sSa) (defBody sSa) (defScope sSa) .none kV4 dc4 pm4 an4 cd4 ct4), sl4⟩) (c4 : PySem.W.codeIn K cd4 "side_at" = true) (k4 : PySem.W.keepIn K (.ref f4) = true)
    (a5 : PySem.W.nsIn K mainGlobals "other_at" = some (some (.ref f5))) (l5 : K.lookup f5 = some ⟨oc5, od5, .func (PySem.W.fnOf "other_at" "other_at" (defArgs sOa) (defBody sOa) (defScope sOa) .none kV5 dc5 pm5 an5 cd5 ct5), sl5⟩) (c5 : PySem.W.codeIn K cd5 "other_at" = true) (k5 : PySem.W.keepIn K (.ref f5) = true)
    (a6 : PySem.W.nsIn K mainGlobals "rows_of" = some (some (.ref f6))) (l6 : K.lookup f6 = some ⟨oc6, od6, .func (PySem.W.fnOf "rows_of" "rows_of" (defArgs sRo) (defBody sRo) (defScope sRo) .none kV6 dc6 pm6 an6 cd6 ct6), sl6⟩) (c6 : PySem.W.codeIn K cd6 "rows_of" = true) (k6 : PySem.W.keepIn K (.ref f6) = true)
    (a7 : PySem.W.nsIn K mainGlobals "card" = some (some (.ref f7))) (l7 : K.lookup f7 = some ⟨oc7, od7, .func (PySem.W.fnOf "card" "card" (defArgs sCard) (defBody sCard) (defScope sCard) .none kV7 dc7 pm7 an7 cd7 ct7), sl7⟩) (c7 : PySem.W.codeIn K cd7 "card" = true) (k7 : PySem.W.keepIn K (.ref f7) = true)
    (a8 : PySem.W.nsIn K mainGlobals "_law_cell_at" = some (some (.ref f8))) (l8 : K.lookup f8 = some ⟨oc8, od8, .func (PySem.W.fnOf "_law_cell_at" "_law_cell_at" (defArgs sCell) (defBody sCell) (defScope sCell) .none kV8 dc8 pm8 an8 cd8 ct8), sl8⟩) (c8 : PySem.W.codeIn K cd8 "_law_cell_at" = true) (k8 : PySem.W.keepIn K (.ref f8) = true)
    (a9 : PySem.W.nsIn K mainGlobals "_law_names" = some (some (.ref f9))) (l9 : K.lookup f9 = some ⟨oc9, od9, .func (PySem.W.fnOf "_law_names" "_law_names" (defArgs sNa) (defBody sNa) (defScope sNa) .none kV9 dc9 pm9 an9 cd9 ct9), sl9⟩) (c9 : PySem.W.codeIn K cd9 "_law_names" = true) (k9 : PySem.W.keepIn K (.ref f9) = true)
    (a10 : PySem.W.nsIn K mainGlobals "_law_thing" = some (some (.ref f10))) (l10 : K.lookup f10 = some ⟨oc10, od10, .func (PySem.W.fnOf "_law_thing" "_law_thing" (defArgs sTg) (defBody sTg) (defScope sTg) .none kV10 dc10 pm10 an10 cd10 ct10), sl10⟩) (c10 : PySem.W.codeIn K cd10 "_law_thing" = true) (k10 : PySem.W.keepIn K (.ref f10) = true)
    (a11 : PySem.W.nsIn K mainGlobals "_law_done" = some (some (.ref f11))) (l11 : K.lookup f11 = some ⟨oc11, od11, .func (PySem.W.fnOf "_law_done" "_law_done" (defArgs sDo) (defBody sDo) (defScope sDo) .none kV11 dc11 pm11 an11 cd11 ct11), sl11⟩) (c11 : PySem.W.codeIn K cd11 "_law_done" = true) (k11 : PySem.W.keepIn K (.ref f11) = true)
    (a12 : PySem.W.nsIn K mainGlobals "_law_said" = some (some (.ref f12))) (l12 : K.lookup f12 = some ⟨oc12, od12, .func (PySem.W.fnOf "_law_said" "_law_said" (defArgs sSd) (defBody sSd) (defScope sSd) .none kV12 dc12 pm12 an12 cd12 ct12), sl12⟩) (c12 : PySem.W.codeIn K cd12 "_law_said" = true) (k12 : PySem.W.keepIn K (.ref f12) = true)
    (a13 : PySem.W.nsIn K mainGlobals "_law_refused_by_any" = some (some (.ref f13))) (l13 : K.lookup f13 = some ⟨oc13, od13, .func (PySem.W.fnOf "_law_refused_by_any" "_law_refused_by_any" (defArgs sRf) (defBody sRf) (defScope sRf) .none kV13 dc13 pm13 an13 cd13 ct13), sl13⟩) (c13 : PySem.W.codeIn K cd13 "_law_refused_by_any" = true) (k13 : PySem.W.keepIn K (.ref f13) = true)
    (a14 : PySem.W.nsIn K mainGlobals "_law_due" = some (some (.ref f14))) (l14 : K.lookup f14 = some ⟨oc14, od14, .func (PySem.W.fnOf "_law_due" "_law_due" (defArgs sDu) (defBody sDu) (defScope sDu) .none kV14 dc14 pm14 an14 cd14 ct14), sl14⟩) (c14 : PySem.W.codeIn K cd14 "_law_due" = true) (k14 : PySem.W.keepIn K (.ref f14) = true)
    (a15 : PySem.W.nsIn K mainGlobals "law" = some (some (.ref f15))) (l15 : K.lookup f15 = some ⟨oc15, od15, .func (PySem.W.fnOf "law" "law" (defArgs sLaw) (defBody sLaw) (defScope sLaw) .none kV15 dc15 pm15 an15 cd15 ct15), sl15⟩) (c15 : PySem.W.codeIn K cd15 "law" = true) (k15 : PySem.W.keepIn K (.ref f15) = true)
    {C0 : Addr}
    {g0f0 : Addr} {g0od0 g0an0 : Option Addr} {g0sl0 : Array (Option Value)} {g0oc0 g0kV0 g0dc0 g0pm0 g0cd0 g0ct0 : Value}
    {g0f1 : Addr} {g0od1 g0an1 : Option Addr} {g0sl1 : Array (Option Value)} {g0oc1 g0kV1 g0dc1 g0pm1 g0cd1 g0ct1 : Value}
    {g0f2 : Addr} {g0od2 g0an2 : Option Addr} {g0sl2 : Array (Option Value)} {g0oc2 g0kV2 g0dc2 g0pm2 g0cd2 g0ct2 : Value}
    {g0f3 : Addr} {g0od3 g0an3 : Option Addr} {g0sl3 : Array (Option Value)} {g0oc3 g0kV3 g0dc3 g0pm3 g0cd3 g0ct3 : Value}
    {g0f4 : Addr} {g0od4 g0an4 : Option Addr} {g0sl4 : Array (Option Value)} {g0oc4 g0kV4 g0dc4 g0pm4 g0cd4 g0ct4 : Value}
    {g0f5 : Addr} {g0od5 g0an5 : Option Addr} {g0sl5 : Array (Option Value)} {g0oc5 g0kV5 g0dc5 g0pm5 g0cd5 g0ct5 : Value}
    {g0f6 : Addr} {g0od6 g0an6 : Option Addr} {g0sl6 : Array (Option Value)} {g0oc6 g0kV6 g0dc6 g0pm6 g0cd6 g0ct6 : Value}
    (g0C : PySem.W.nsIn K mainGlobals "House" = some (some (.ref C0)))
    (g0a0 : PySem.W.findIn K (.ref C0) "__init__" = some (some (.ref g0f0))) (g0i0 : PySem.W.isFn K (.ref g0f0) = true) (g0l0 : K.lookup g0f0 = some ⟨g0oc0, g0od0, .func (PySem.W.fnOf "__init__" "House.__init__" (defArgs sIni) (defBody sIni) (defScope sIni) .none g0kV0 g0dc0 g0pm0 g0an0 g0cd0 g0ct0), g0sl0⟩) (g0c0 : PySem.W.codeIn K g0cd0 "House.__init__" = true) (g0k0 : PySem.W.keepIn K (.ref g0f0) = true)
    (g0a1 : PySem.W.findIn K (.ref C0) "enter" = some (some (.ref g0f1))) (g0i1 : PySem.W.isFn K (.ref g0f1) = true) (g0l1 : K.lookup g0f1 = some ⟨g0oc1, g0od1, .func (PySem.W.fnOf "enter" "House.enter" (defArgs sEn) (defBody sEn) (defScope sEn) .none g0kV1 g0dc1 g0pm1 g0an1 g0cd1 g0ct1), g0sl1⟩) (g0c1 : PySem.W.codeIn K g0cd1 "House.enter" = true) (g0k1 : PySem.W.keepIn K (.ref g0f1) = true)
    (g0a2 : PySem.W.findIn K (.ref C0) "leave" = some (some (.ref g0f2))) (g0i2 : PySem.W.isFn K (.ref g0f2) = true) (g0l2 : K.lookup g0f2 = some ⟨g0oc2, g0od2, .func (PySem.W.fnOf "leave" "House.leave" (defArgs sLe) (defBody sLe) (defScope sLe) .none g0kV2 g0dc2 g0pm2 g0an2 g0cd2 g0ct2), g0sl2⟩) (g0c2 : PySem.W.codeIn K g0cd2 "House.leave" = true) (g0k2 : PySem.W.keepIn K (.ref g0f2) = true)
    (g0a3 : PySem.W.findIn K (.ref C0) "back" = some (some (.ref g0f3))) (g0i3 : PySem.W.isFn K (.ref g0f3) = true) (g0l3 : K.lookup g0f3 = some ⟨g0oc3, g0od3, .func (PySem.W.fnOf "back" "House.back" (defArgs sBa) (defBody sBa) (defScope sBa) .none g0kV3 g0dc3 g0pm3 g0an3 g0cd3 g0ct3), g0sl3⟩) (g0c3 : PySem.W.codeIn K g0cd3 "House.back" = true) (g0k3 : PySem.W.keepIn K (.ref g0f3) = true)
    (g0a4 : PySem.W.findIn K (.ref C0) "has_guest" = some (some (.ref g0f4))) (g0i4 : PySem.W.isFn K (.ref g0f4) = true) (g0l4 : K.lookup g0f4 = some ⟨g0oc4, g0od4, .func (PySem.W.fnOf "has_guest" "House.has_guest" (defArgs sHg) (defBody sHg) (defScope sHg) .none g0kV4 g0dc4 g0pm4 g0an4 g0cd4 g0ct4), g0sl4⟩) (g0c4 : PySem.W.codeIn K g0cd4 "House.has_guest" = true) (g0k4 : PySem.W.keepIn K (.ref g0f4) = true)
    (g0a5 : PySem.W.findIn K (.ref C0) "guests" = some (some (.ref g0f5))) (g0i5 : PySem.W.isFn K (.ref g0f5) = true) (g0l5 : K.lookup g0f5 = some ⟨g0oc5, g0od5, .func (PySem.W.fnOf "guests" "House.guests" (defArgs sGu) (defBody sGu) (defScope sGu) .none g0kV5 g0dc5 g0pm5 g0an5 g0cd5 g0ct5), g0sl5⟩) (g0c5 : PySem.W.codeIn K g0cd5 "House.guests" = true) (g0k5 : PySem.W.keepIn K (.ref g0f5) = true)
    (g0a6 : PySem.W.findIn K (.ref C0) "card" = some (some (.ref g0f6))) (g0i6 : PySem.W.isFn K (.ref g0f6) = true) (g0l6 : K.lookup g0f6 = some ⟨g0oc6, g0od6, .func (PySem.W.fnOf "card" "House.card" (defArgs sHc) (defBody sHc) (defScope sHc) .none g0kV6 g0dc6 g0pm6 g0an6 g0cd6 g0ct6), g0sl6⟩) (g0c6 : PySem.W.codeIn K g0cd6 "House.card" = true) (g0k6 : PySem.W.keepIn K (.ref g0f6) = true)
    (g0pg : PySem.W.plainGet K C0 Str.empty = true) (g0hd : PySem.W.hasDictIn K C0 = true) (g0po : PySem.W.plainOver K C0 = true) (g0sa : PySem.W.findIn K (.ref C0) "__setattr__" = some (some (.builtin "object.__setattr__"))) (g0mk : PySem.W.makesIn K C0 = true) (g0kc : PySem.W.keepIn K (.ref C0) = true)
    (g0n0 : PySem.W.findIn K (.ref C0) "entered" = some none)
    (g0n1 : PySem.W.findIn K (.ref C0) "played" = some none)
    (g0n2 : PySem.W.findIn K (.ref C0) "grounds" = some none)
    (z0 : PySem.W.nsIn K mainGlobals "len" = some none)
    (z1 : PySem.W.nsIn K mainGlobals "range" = some none)
    (z2 : PySem.W.nsIn K mainGlobals "min" = some none)
    (z3 : PySem.W.nsIn K mainGlobals "max" = some none)
    (z4 : PySem.W.nsIn K mainGlobals "isinstance" = some none)
    (z5 : PySem.W.nsIn K mainGlobals "bool" = some none)
    (z6 : PySem.W.nsIn K mainGlobals "list" = some none)
    (z7 : PySem.W.nsIn K mainGlobals "int" = some none)
    (z8 : PySem.W.nsIn K mainGlobals "str" = some none)
    (z9 : PySem.W.nsIn K mainGlobals "tuple" = some none)
    (z10 : PySem.W.nsIn K mainGlobals "sorted" = some none)
    (z11 : PySem.W.nsIn K mainGlobals "sum" = some none)
    (z12 : PySem.W.nsIn K mainGlobals "enumerate" = some none)
    (z13 : PySem.W.nsIn K mainGlobals "all" = some none)
    (z14 : PySem.W.nsIn K mainGlobals "ValueError" = some none)
    (v0 : PySem.W.nsIn K mainGlobals "LETTERS" = some (some (.str LET tk0)))
    (v1 : PySem.W.nsIn K mainGlobals "MOST_LETTERS" = some (some (.int 12 tk1)))
    {cN cG cR cT cF : Addr}
    (wN : PySem.W.nsIn K mainGlobals "NoName" = some (some (.ref cN)))
    (wG : PySem.W.nsIn K mainGlobals "NoGuest" = some (some (.ref cG)))
    (wR : PySem.W.nsIn K mainGlobals "RollError" = some (some (.ref cR)))
    (wT : PySem.W.nsIn K mainGlobals "NoTable" = some (some (.ref cT)))
    (wF : PySem.W.nsIn K mainGlobals "TooFew" = some (some (.ref cF)))
    (wC : PySem.W.nsIn K mainGlobals "card_cards" = some (some (.ref f7)))
    (eN : PySem.W.excIn K cN [.type "ValueError", .type "Exception", .type "BaseException", .type "object"] "ValueError.__new__" = true)
    (eG : PySem.W.excIn K cG [.type "ValueError", .type "Exception", .type "BaseException", .type "object"] "ValueError.__new__" = true)
    (eR : PySem.W.excIn K cR [.type "ValueError", .type "Exception", .type "BaseException", .type "object"] "ValueError.__new__" = true)
    (sNR : PySem.W.mroIn K cN (.ref cR) = some true)
    (sGR : PySem.W.mroIn K cG (.ref cR) = some true)
    (sNN : PySem.W.mroIn K cN (.ref cN) = some true)
    (sGN : PySem.W.mroIn K cG (.ref cN) = some false)
    (sGG : PySem.W.mroIn K cG (.ref cG) = some true)
    (u1N : PySem.W.findIn K (.ref cN) "__getattribute__" = some (some (.builtin "BaseException.__getattribute__")))
    (u2N : PySem.W.findIn K (.ref cN) "__getattr__" = some none)
    (u3N : PySem.W.findIn K (.ref cN) "__class__" = some (some (.builtin "object.__class__")))
    (u4N : PySem.W.mroIn K cN (.type "object") = some true)
    (u5N : PySem.W.mroIn K cN (.type "BaseException") = some true)
    (u1G : PySem.W.findIn K (.ref cG) "__getattribute__" = some (some (.builtin "BaseException.__getattribute__")))
    (u2G : PySem.W.findIn K (.ref cG) "__getattr__" = some none)
    (u3G : PySem.W.findIn K (.ref cG) "__class__" = some (some (.builtin "object.__class__")))
    (u4G : PySem.W.mroIn K cG (.type "object") = some true)
    (u5G : PySem.W.mroIn K cG (.type "BaseException") = some true)
    (yNN : PySem.W.kitOne K (.ref cN) (.ref cN) = some true)
    (yNG : PySem.W.kitOne K (.ref cN) (.ref cG) = some false)
    (yGN : PySem.W.kitOne K (.ref cG) (.ref cN) = some false)
    (yGG : PySem.W.kitOne K (.ref cG) (.ref cG) = some true)
    (yNV : PySem.W.kitOne K (.ref cN) (.type "ValueError") = some true)
    (yGV : PySem.W.kitOne K (.ref cG) (.type "ValueError") = some true)
    (yNT : PySem.W.kitOne K (.ref cN) (.ref cT) = some false)
    (yGT : PySem.W.kitOne K (.ref cG) (.ref cT) = some false)
    (yNF : PySem.W.kitOne K (.ref cN) (.ref cF) = some false)
    (yGF : PySem.W.kitOne K (.ref cG) (.ref cF) = some false)
    : ∃ fd : FuncData, (∀ (s : Shared) (v : Value), BindsTo s fd ⟨[v], []⟩ [("_law_script", v)]) ∧ ∀ base : Heap, K.In base → base.Ns mainGlobals mg → FnOk l.prog w K mg base CX0 10 fa fd ["_law_script"] (spLaw K) := by
  have e := hfa.symm.trans (PySem.W.mg_of X G a15)
  cases e
  have T : BiR mg := ⟨PySem.W.mg_none_of X G z0, PySem.W.mg_none_of X G z1, PySem.W.mg_none_of X G z2, PySem.W.mg_none_of X G z3, PySem.W.mg_none_of X G z4, PySem.W.mg_none_of X G z5, PySem.W.mg_none_of X G z6, PySem.W.mg_none_of X G z7, PySem.W.mg_none_of X G z8, PySem.W.mg_none_of X G z9, PySem.W.mg_none_of X G z10, PySem.W.mg_none_of X G z11, PySem.W.mg_none_of X G z12, PySem.W.mg_none_of X G z13, PySem.W.mg_none_of X G z14⟩
  let dNm : Df K mg "is_name" sNm ["thing"] := df_mk X G a0 l0 c0 k0 (fun _ _ _ _ _ _ us hl => by obtain ⟨_, rfl⟩ := lex_1 hl; rfl)
  let dIr : Df K mg "is_rest" sIr ["table"] := df_mk X G a1 l1 c1 k1 (fun _ _ _ _ _ _ us hl => by obtain ⟨_, rfl⟩ := lex_1 hl; rfl)
  let dIa : Df K mg "is_at" sIa ["table", "name"] := df_mk X G a2 l2 c2 k2 (fun _ _ _ _ _ _ us hl => by obtain ⟨_, _, rfl⟩ := lex_2 hl; rfl)
  let dPa : Df K mg "points_at" sPa ["table", "name"] := df_mk X G a3 l3 c3 k3 (fun _ _ _ _ _ _ us hl => by obtain ⟨_, _, rfl⟩ := lex_2 hl; rfl)
  let dSa : Df K mg "side_at" sSa ["table", "name"] := df_mk X G a4 l4 c4 k4 (fun _ _ _ _ _ _ us hl => by obtain ⟨_, _, rfl⟩ := lex_2 hl; rfl)
  let dOa : Df K mg "other_at" sOa ["table", "name"] := df_mk X G a5 l5 c5 k5 (fun _ _ _ _ _ _ us hl => by obtain ⟨_, _, rfl⟩ := lex_2 hl; rfl)
  let dRo : Df K mg "rows_of" sRo ["turns", "name"] := df_mk X G a6 l6 c6 k6 (fun _ _ _ _ _ _ us hl => by obtain ⟨_, _, rfl⟩ := lex_2 hl; rfl)
  let dCa : Df K mg "card" sCard ["turns", "name"] := df_mk X G a7 l7 c7 k7 (fun _ _ _ _ _ _ us hl => by obtain ⟨_, _, rfl⟩ := lex_2 hl; rfl)
  let dC : Df K mg "_law_cell_at" sCell ["_law_script", "_law_k"] := df_mk X G a8 l8 c8 k8 (fun _ _ _ _ _ _ us hl => by obtain ⟨_, _, rfl⟩ := lex_2 hl; rfl)
  let dNa : Df K mg "_law_names" sNa ["_law_cell", "_law_many"] := df_mk X G a9 l9 c9 k9 (fun _ _ _ _ _ _ us hl => by obtain ⟨_, _, rfl⟩ := lex_2 hl; rfl)
  let dTg : Df K mg "_law_thing" sTg ["_law_cell", "_law_names_here"] := df_mk X G a10 l10 c10 k10 (fun _ _ _ _ _ _ us hl => by obtain ⟨_, _, rfl⟩ := lex_2 hl; rfl)
  let dDo : Df K mg "_law_done" sDo ["_law_house", "_law_deed", "_law_thing_here"] := df_mk X G a11 l11 c11 k11 (fun _ _ _ _ _ _ us hl => by obtain ⟨_, _, _, rfl⟩ := lex_3 hl; rfl)
  let dSd : Df K mg "_law_said" sSd ["_law_house", "_law_deed", "_law_thing_here"] := df_mk X G a12 l12 c12 k12 (fun _ _ _ _ _ _ us hl => by obtain ⟨_, _, _, rfl⟩ := lex_3 hl; rfl)
  let dRf : Df K mg "_law_refused_by_any" sRf ["_law_house", "_law_deed", "_law_thing_here", "_law_word"] := df_mk X G a13 l13 c13 k13 (fun _ _ _ _ _ _ us hl => by obtain ⟨_, _, _, _, rfl⟩ := lex_4 hl; rfl)
  let dDu : Df K mg "_law_due" sDu ["_law_names_here", "_law_order", "_law_here", "_law_deed", "_law_thing_here"] := df_mk X G a14 l14 c14 k14 (fun _ _ _ _ _ _ us hl => by obtain ⟨_, _, _, _, _, rfl⟩ := lex_5 hl; rfl)
  let dLaw : Df K mg "law" sLaw ["_law_script"] := df_mk X G a15 l15 c15 k15 (fun _ _ _ _ _ _ us hl => by obtain ⟨_, rfl⟩ := lex_1 hl; rfl)
  have hW : TxH K mg C0 := ⟨⟨g0pg, g0hd, g0po, g0sa⟩, g0n0, g0n1, g0n2, PySem.W.mg_of X G g0C⟩
  let dI : Di K C0 "House.__init__" sIni ["self"] := di_mk g0a0 g0i0 g0l0 g0c0 g0k0 g0mk g0kc (fun _ _ _ _ _ _ us hl => by obtain ⟨_, rfl⟩ := lex_1 hl; rfl)
  let dEn : Dm K C0 "enter" "House.enter" sEn ["self", "name"] := dm_mk g0a1 g0i1 g0l1 g0c1 g0k1 (fun _ _ _ _ _ _ us hl => by obtain ⟨_, _, rfl⟩ := lex_2 hl; rfl)
  let dLe : Dm K C0 "leave" "House.leave" sLe ["self", "name"] := dm_mk g0a2 g0i2 g0l2 g0c2 g0k2 (fun _ _ _ _ _ _ us hl => by obtain ⟨_, _, rfl⟩ := lex_2 hl; rfl)
  let dBa : Dm K C0 "back" "House.back" sBa ["self", "name"] := dm_mk g0a3 g0i3 g0l3 g0c3 g0k3 (fun _ _ _ _ _ _ us hl => by obtain ⟨_, _, rfl⟩ := lex_2 hl; rfl)
  let dHg : Dm K C0 "has_guest" "House.has_guest" sHg ["self", "thing"] := dm_mk g0a4 g0i4 g0l4 g0c4 g0k4 (fun _ _ _ _ _ _ us hl => by obtain ⟨_, _, rfl⟩ := lex_2 hl; rfl)
  let dGu : Dm K C0 "guests" "House.guests" sGu ["self"] := dm_mk g0a5 g0i5 g0l5 g0c5 g0k5 (fun _ _ _ _ _ _ us hl => by obtain ⟨_, rfl⟩ := lex_1 hl; rfl)
  let dHc : Dm K C0 "card" "House.card" sHc ["self", "name"] := dm_mk g0a6 g0i6 g0l6 g0c6 g0k6 (fun _ _ _ _ _ _ us hl => by obtain ⟨_, _, rfl⟩ := lex_2 hl; rfl)
  let XX : Xs K mg := ⟨⟨cN, eN, PySem.W.mg_of X G wN⟩, ⟨cG, eG, PySem.W.mg_of X G wG⟩, ⟨cR, eR, PySem.W.mg_of X G wR⟩, sub_mro sNR, sub_mro sGR, sub_mro sNN, sub_mro sGN, sub_mro sGG, ⟨u1N, u2N, u3N, u4N, u5N, cls_mro u4N⟩, ⟨u1G, u2G, u3G, u4G, u5G, cls_mro u4G⟩, yNN, yNG, yGN, yGG, yNV, yGV, ⟨cT, PySem.W.mg_of X G wT, yNT, yGT⟩, ⟨cF, PySem.W.mg_of X G wF, yNF, yGF⟩⟩
  let Gp : Pg K mg C0 := ⟨T, hW, XX, _, _, PySem.W.mg_of X G v0, PySem.W.mg_of X G v1, dNm, dIr, dIa, dPa, dSa, dOa, dRo, dCa, PySem.W.mg_of X G wC, dI, dEn, dLe, dBa, dHg, dGu, dHc⟩
  exact ⟨dLaw.fd, fun s v => .of_eq rfl, fun base _ _ => okLaw dLaw Gp dC dNa dTg dDo dSd dRf dDu⟩
theorem walk {l : PySem.W.OpenLaw} {q : Program} {loose : List Str} {XP : (Str → Option Value) → Heap → Prop} {YP : World → Heap → Prop} {d : DefRec} {K : Params → PySem.W.Frag} (hn : l.most = some 63) (hdf : d.params.defaults = [])
    (hY : ∀ (w : World) (h : Heap), YP w h → (K w.params).In h)
    (F : ∀ (w : World) (mg : Str → Option Value) (fa : Addr) (h : Heap), (K w.params).In h → h.Ns mainGlobals mg → mg d.name = some (.ref fa) →
      ∃ fd : FuncData, (∀ (s : Shared) (u : Value), BindsTo s fd ⟨[u], []⟩ [("_law_script", u)]) ∧ ∀ base : Heap, (K w.params).In base → base.Ns mainGlobals mg → FnOk l.prog w (K w.params) mg base CX0 10 fa fd ["_law_script"] (spLaw (K w.params))) :
    PySem.W.WalkO q loose XP YP l.row.toRowW d [] (fun f vs => PySem.call f vs) :=
  L2.walk_of (n := 63) (k := 10) (x := "_law_script") (CX := fun _ => CX0) (sp := fun w => spLaw (K w.params)) hn (by decide) hdf ⟨rfl, by decide, by decide⟩ hY F (fun _ _ a ns hl _ hS => ⟨a, ns, rfl, hS, hl, fun _ => rfl⟩) fun _ _ _ _ _ z => z
end Rk33_guests
open PySem PySem.W PyProof.Rows
set_option maxRecDepth 100000 in
set_option maxHeartbeats 0 in
theorem PySem.Challenge.cw_rollcall_k33_guests_holds : PySem.Challenge.rw_rollcall_k33_guests.Holds := by
  w_on; o_law; k_head; (case hw => w_witness2)
  k_fill
  refine Rk33_guests.walk (l := PySem.Challenge.rw_rollcall_k33_guests) rfl rfl (fun w h Y => PySem.W.kIn_of Y) ?F
  case F =>
    intro w mg fa h KX G hmg
    refine' Rk33_guests.all_mk KX G hmg ?a0 ?l0 ?c0 ?k0 ?a1 ?l1 ?c1 ?k1 ?a2 ?l2 ?c2 ?k2 ?a3 ?l3 ?c3 ?k3 ?a4 ?l4 ?c4 ?k4 ?a5 ?l5 ?c5 ?k5 ?a6 ?l6 ?c6 ?k6 ?a7 ?l7 ?c7 ?k7 ?a8 ?l8 ?c8 ?k8 ?a9 ?l9 ?c9 ?k9 ?a10 ?l10 ?c10 ?k10 ?a11 ?l11 ?c11 ?k11 ?a12 ?l12 ?c12 ?k12 ?a13 ?l13 ?c13 ?k13 ?a14 ?l14 ?c14 ?k14 ?a15 ?l15 ?c15 ?k15 ?g0C ?g0a0 ?g0i0 ?g0l0 ?g0c0 ?g0k0 ?g0a1 ?g0i1 ?g0l1 ?g0c1 ?g0k1 ?g0a2 ?g0i2 ?g0l2 ?g0c2 ?g0k2 ?g0a3 ?g0i3 ?g0l3 ?g0c3 ?g0k3 ?g0a4 ?g0i4 ?g0l4 ?g0c4 ?g0k4 ?g0a5 ?g0i5 ?g0l5 ?g0c5 ?g0k5 ?g0a6 ?g0i6 ?g0l6 ?g0c6 ?g0k6 ?g0pg ?g0hd ?g0po ?g0sa ?g0mk ?g0kc ?g0n0 ?g0n1 ?g0n2 ?z0 ?z1 ?z2 ?z3 ?z4 ?z5 ?z6 ?z7 ?z8 ?z9 ?z10 ?z11 ?z12 ?z13 ?z14 ?v0 ?v1 ?wN ?wG ?wR ?wT ?wF ?wC ?eN ?eG ?eR ?sNR ?sGR ?sNN ?sGN ?sGG ?u1N ?u2N ?u3N ?u4N ?u5N ?u1G ?u2G ?u3G ?u4G ?u5G ?yNN ?yNG ?yGN ?yGG ?yNV ?yGV ?yNT ?yGT ?yNF ?yGF
    (case a0 => k_is)
    (case l0 => k_is)
    (case c0 => k_is)
    (case k0 => k_is)
    (case a1 => k_is)
    (case l1 => k_is)
    (case c1 => k_is)
    (case k1 => k_is)
    (case a2 => k_is)
    (case l2 => k_is)
    (case c2 => k_is)
    (case k2 => k_is)
    (case a3 => k_is)
    (case l3 => k_is)
    (case c3 => k_is)
    (case k3 => k_is)
    (case a4 => k_is)
    (case l4 => k_is)
    (case c4 => k_is)
    (case k4 => k_is)
    (case a5 => k_is)
    (case l5 => k_is)
    (case c5 => k_is)
    (case k5 => k_is)
    (case a6 => k_is)
    (case l6 => k_is)
    (case c6 => k_is)
    (case k6 => k_is)
    (case a7 => k_is)
    (case l7 => k_is)
    (case c7 => k_is)
    (case k7 => k_is)
    (case a8 => k_is)
    (case l8 => k_is)
    (case c8 => k_is)
    (case k8 => k_is)
    (case a9 => k_is)
    (case l9 => k_is)
    (case c9 => k_is)
    (case k9 => k_is)
    (case a10 => k_is)
    (case l10 => k_is)
    (case c10 => k_is)
    (case k10 => k_is)
    (case a11 => k_is)
    (case l11 => k_is)
    (case c11 => k_is)
    (case k11 => k_is)
    (case a12 => k_is)
    (case l12 => k_is)
    (case c12 => k_is)
    (case k12 => k_is)
    (case a13 => k_is)
    (case l13 => k_is)
    (case c13 => k_is)
    (case k13 => k_is)
    (case a14 => k_is)
    (case l14 => k_is)
    (case c14 => k_is)
    (case k14 => k_is)
    (case a15 => k_is)
    (case l15 => k_is)
    (case c15 => k_is)
    (case k15 => k_is)
    (case g0C => k_is)
    (case g0a0 => k_is)
    (case g0i0 => k_is)
    (case g0l0 => k_is)
    (case g0c0 => k_is)
    (case g0k0 => k_is)
    (case g0a1 => k_is)
    (case g0i1 => k_is)
    (case g0l1 => k_is)
    (case g0c1 => k_is)
    (case g0k1 => k_is)
    (case g0a2 => k_is)
    (case g0i2 => k_is)
    (case g0l2 => k_is)
    (case g0c2 => k_is)
    (case g0k2 => k_is)
    (case g0a3 => k_is)
    (case g0i3 => k_is)
    (case g0l3 => k_is)
    (case g0c3 => k_is)
    (case g0k3 => k_is)
    (case g0a4 => k_is)
    (case g0i4 => k_is)
    (case g0l4 => k_is)
    (case g0c4 => k_is)
    (case g0k4 => k_is)
    (case g0a5 => k_is)
    (case g0i5 => k_is)
    (case g0l5 => k_is)
    (case g0c5 => k_is)
    (case g0k5 => k_is)
    (case g0a6 => k_is)
    (case g0i6 => k_is)
    (case g0l6 => k_is)
    (case g0c6 => k_is)
    (case g0k6 => k_is)
    (case g0pg => k_is)
    (case g0hd => k_is)
    (case g0po => k_is)
    (case g0sa => k_is)
    (case g0mk => k_is)
    (case g0kc => k_is)
    (case g0n0 => k_is)
    (case g0n1 => k_is)
    (case g0n2 => k_is)
    (case z0 => k_is)
    (case z1 => k_is)
    (case z2 => k_is)
    (case z3 => k_is)
    (case z4 => k_is)
    (case z5 => k_is)
    (case z6 => k_is)
    (case z7 => k_is)
    (case z8 => k_is)
    (case z9 => k_is)
    (case z10 => k_is)
    (case z11 => k_is)
    (case z12 => k_is)
    (case z13 => k_is)
    (case z14 => k_is)
    (case v0 => k_is)
    (case v1 => k_is)
    (case wN => k_is)
    (case wG => k_is)
    (case wR => k_is)
    (case wT => k_is)
    (case wF => k_is)
    (case wC => k_is)
    (case eN => k_exc)
    (case eG => k_exc)
    (case eR => k_exc)
    (case sNR => k_is)
    (case sGR => k_is)
    (case sNN => k_is)
    (case sGN => k_is)
    (case sGG => k_is)
    (case u1N => k_is)
    (case u2N => k_is)
    (case u3N => k_is)
    (case u4N => k_is)
    (case u5N => k_is)
    (case u1G => k_is)
    (case u2G => k_is)
    (case u3G => k_is)
    (case u4G => k_is)
    (case u5G => k_is)
    (case yNN => kit_is)
    (case yNG => kit_is)
    (case yGN => kit_is)
    (case yGG => kit_is)
    (case yNV => kit_is)
    (case yGV => kit_is)
    (case yNT => kit_is)
    (case yGT => kit_is)
    (case yNF => kit_is)
    (case yGF => kit_is)
#print axioms PySem.Challenge.cw_rollcall_k33_guests_holds
