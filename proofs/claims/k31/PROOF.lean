import PyProof.Rows.All
import Wide.All
import OpenK.AllK
import Wide.FinOn
import Lean
import PyProof.EqAt
import PyProof.EqKinds
import PyProof.TupleCall
import PySem.Challenge.RW_rollcall_k31_whole_order_of_pairings
set_option Elab.async false
set_option linter.all false
set_option maxRecDepth 100000
/-! THE HAND LAYER, for ints, bools, texts, own classes, DICTS (int and text keys), calls, loops. Paste it whole ahead of your own text; what your proof does not reach may be deleted. -/
namespace L2
open PySem PySem.Spec PyProof.Rows

/-- a key: an int or a str -/
abbrev Key := Sum Int Str
def keyIs : Key → Value → Bool
  | .inl k, v => Value.isInt k v
  | .inr x, v => Value.isStrOf x v
def keyH (w : World) : Key → Int
  | .inl k => hashInt k
  | .inr x => hashStr w x
theorem keyIs_shape : ∀ {k : Key} {v : Value}, keyIs k v = true → (∃ i t, k = Sum.inl i ∧ v = Value.int i t) ∨ (∃ x t, k = Sum.inr x ∧ v = Value.str x t)
  | .inl i, v, h => by
    obtain ⟨t, e⟩ := Value.isInt_shape (k := i) (v := v) h
    exact .inl ⟨i, t, rfl, e⟩
  | .inr x, v, h => by
    obtain ⟨t, e⟩ := Value.isStrOf_shape (x := x) (v := v) h
    exact .inr ⟨x, t, rfl, e⟩
theorem keyIs_int (i : Int) (t : Tok) : keyIs (.inl i) (.int i t) = true := by simp [keyIs, Value.isInt]
theorem keyIs_str (x : Str) (t : Tok) : keyIs (.inr x) (.str x t) = true := by simp [keyIs, Value.isStrOf]
theorem key_ll (a b : Int) : decide ((Sum.inl a : Key) = Sum.inl b) = (a == b) := by
  by_cases e : a = b
  · subst e; simp
  · have h : ¬ (Sum.inl a : Key) = Sum.inl b := fun q => e (Sum.inl.inj q)
    rw [decide_eq_false h]
    exact (beq_eq_false_iff_ne.mpr e).symm
theorem key_rr (a b : Str) : decide ((Sum.inr a : Key) = Sum.inr b) = decide (a = b) := by
  by_cases e : a = b
  · subst e; simp
  · have h : ¬ (Sum.inr a : Key) = Sum.inr b := fun q => e (Sum.inr.inj q)
    rw [decide_eq_false h, decide_eq_false e]
theorem key_lr (a : Int) (b : Str) : decide ((Sum.inl a : Key) = Sum.inr b) = false := decide_eq_false (fun q => nomatch q)
theorem key_rl (a : Str) (b : Int) : decide ((Sum.inr a : Key) = Sum.inl b) = false := decide_eq_false (fun q => nomatch q)

def mixKind (prog : Program) (w : World) : PySem.KeyKind prog w Key where
  is := keyIs
  hash := keyH w
  inj := fun v a b ha hb => by
    rcases keyIs_shape ha with ⟨i, t, rfl, rfl⟩ | ⟨x, t, rfl, rfl⟩
    · rcases keyIs_shape hb with ⟨j, u, rfl, e⟩ | ⟨y, u, rfl, e⟩
      · injection e with e1 _; rw [e1]
      · exact nomatch e
    · rcases keyIs_shape hb with ⟨j, u, rfl, e⟩ | ⟨y, u, rfl, e⟩
      · exact nomatch e
      · injection e with e1 _; rw [e1]
  byValue := fun k v h => by
    rcases keyIs_shape h with ⟨i, t, rfl, rfl⟩ | ⟨x, t, rfl, rfl⟩ <;> rfl
  pyHash := fun hv h => by
    rcases keyIs_shape hv with ⟨i, t, rfl, rfl⟩ | ⟨x, t, rfl, rfl⟩
    · exact wpAny_pyHash_int h
    · exact wpAny_pyHash_str h
  eqBool := fun hu hv h => by
    rcases keyIs_shape hu with ⟨i, t, rfl, rfl⟩ | ⟨x, t, rfl, rfl⟩
    · rcases keyIs_shape hv with ⟨j, u, rfl, rfl⟩ | ⟨y, u, rfl, rfl⟩
      · rw [key_ll] at h; exact wpAny_eqBool_int h
      · rw [key_lr] at h; exact SeqAt.EqAt.int_str i t y u _ _ _ _ h
    · rcases keyIs_shape hv with ⟨j, u, rfl, rfl⟩ | ⟨y, u, rfl, rfl⟩
      · rw [key_rl] at h; exact SeqAt.EqAt.str_int x t j u _ _ _ _ h
      · rw [key_rr] at h; exact wpAny_eqBool_str h
  «strs» := fun k x t v h => by
    rcases keyIs_shape h with ⟨i, u, rfl, e⟩ | ⟨y, u, rfl, e⟩
    · exact nomatch e
    · injection e with e1 _
      subst e1
      cases v <;> rfl

theorem mixKind_is (prog : Program) (w : World) (k : Key) (v : Value) : (mixKind prog w).is k v = keyIs k v := rfl
theorem mixKind_int (prog : Program) (w : World) (i : Int) (t : Tok) : (mixKind prog w).is (.inl i) (.int i t) = true := keyIs_int i t
theorem mixKind_str (prog : Program) (w : World) (x : Str) (t : Tok) : (mixKind prog w).is (.inr x) (.str x t) = true := keyIs_str x t
end L2

namespace L2
open PySem PySem.Spec PyProof.Rows

/-- a value, without the heap -/
inductive V where
  | non | bl (b : Bool) | int (i : Int) | str (x : Str) | byt (b : Array UInt8) | flt (b : UInt64) | ref (a : Addr) | ty (n : String)
  deriving DecidableEq

def RelV : V → Value → Prop
  | .non, u => u = Value.none
  | .bl b, u => u = Value.bool b
  | .int i, u => ∃ t, u = Value.int i t
  | .str x, u => ∃ t, u = Value.str x t
  | .byt b, u => ∃ t, u = Value.bytes b t
  | .flt b, u => ∃ t, u = Value.float b t
  | .ref a, u => u = Value.ref a
  | .ty n, u => u = Value.type n

abbrev Vals : List V → List Value → Prop := Paired RelV
theorem Vals.length {xs : List V} {us : List Value} (r : Vals xs us) : xs.length = us.length := Paired.length r
theorem Vals.get : ∀ {xs : List V} {us : List Value} {i : Nat} {x : V}, Vals xs us → xs[i]? = some x → ∃ u, us[i]? = some u ∧ RelV x u
  | _, _, _, _, .nil, e => by simp at e
  | _, _, 0, _, .cons r _, e => by simp at e; subst e; exact ⟨_, rfl, r⟩
  | _, _, i + 1, x, .cons _ t, e => by
    obtain ⟨u, h1, h2⟩ := Vals.get (i := i) (x := x) t (by simpa using e)
    exact ⟨u, by simpa using h1, h2⟩
theorem Vals.set {x : V} {u : Value} (r : RelV x u) : ∀ {xs : List V} {us : List Value} (i : Nat), Vals xs us → Vals (xs.set i x) (us.set i u)
  | _, _, _, .nil => .nil
  | _, _, 0, .cons _ t => .cons r t
  | _, _, i + 1, .cons q t => .cons q (Vals.set r i t)
theorem Vals.append : ∀ {xs ys : List V} {us ws : List Value}, Vals xs us → Vals ys ws → Vals (xs ++ ys) (us ++ ws)
  | _, _, _, _, .nil, s => s
  | _, _, _, _, .cons r t, s => .cons r (Vals.append t s)
theorem Vals.take : ∀ {xs : List V} {us : List Value} (n : Nat), Vals xs us → Vals (xs.take n) (us.take n)
  | _, _, 0, _ => .nil
  | _, _, _ + 1, .nil => .nil
  | _, _, n + 1, .cons r t => .cons r (Vals.take n t)
theorem Vals.drop : ∀ {xs : List V} {us : List Value} (n : Nat), Vals xs us → Vals (xs.drop n) (us.drop n)
  | _, _, 0, r => r
  | _, _, _ + 1, .nil => .nil
  | _, _, n + 1, .cons _ t => Vals.drop n t
theorem Vals.none_of : ∀ {xs : List V} {us : List Value} {i : Nat}, Vals xs us → xs[i]? = none → us[i]? = none := fun {xs us i} r e => by
  have h1 := r.length
  have h2 : xs.length ≤ i := List.getElem?_eq_none_iff.mp e
  exact List.getElem?_eq_none_iff.mpr (by omega)

def RelO : Option V → Option Value → Prop
  | some v, some u => RelV v u
  | none, none => True
  | _, _ => False
def KV {κ : Type} : List (κ × V) → List (κ × Value) → Prop := Paired fun (p : κ × V) (q : κ × Value) => p.1 = q.1 ∧ RelV p.2 q.2

/-- a key of a dict (00_mix): an int or a text -/
def kV : Key → V
  | .inl i => .int i
  | .inr x => .str x

/-- what stands at a tracked address -/
inductive HO where
  /-- a list -/
  | lst (xs : List V)
  /-- a tuple (never changes) -/
  | tup (xs : List V)
  /-- a dict whose keys are ints and texts; one whose keys are tuples of ints and texts (the empty one is both) -/
  | dK (kvs : List (Key × V)) | dT (kvs : List (List Key × V))
  /-- a set of ints: its members, its size -/
  | set (S : Int → Bool) (n : Nat)
  /-- an instance of the class at C, its dict at dx, its attributes -/
  | ins (C dx : Addr) (fs : List (Str × V))
  /-- the dict of the instance at x -/
  | own (x : Addr)
  /-- the dict of an exception -/
  | xd (fs : List (Str × V))
  /-- a bound method, f of x -/
  | met (f x : Addr)
  /-- a range object lo, lo + 1, .. below hi -/
  | rng (lo hi : Int)
  /-- a thing that is known to the object (the script; a dict while a loop walks it): read, never written while it is so -/
  | frz (o : Obj) (u : HO)
  /-- a code object's table -/
  | tbl (ps : Array Value)
  /-- any other thing, by what is true of its one object (a def of one's own: SetO a S n := HO.ext fun h => ..) -/
  | ext (φ : Heap → Prop)

abbrev Hp := Addr → Option HO
def upd (H : Hp) (a : Addr) (o : HO) : Hp := fun b => if b = a then some o else H b
theorem upd_same {H : Hp} {a : Addr} {o : HO} : upd H a o a = some o := by unfold upd; rw [if_pos rfl]
theorem upd_ne {H : Hp} {a b : Addr} {o : HO} (h : b ≠ a) : upd H a o b = H b := by unfold upd; rw [if_neg h]
theorem upd_upd {H : Hp} {a : Addr} {o u : HO} : upd (upd H a o) a u = upd H a u := by
  funext b; unfold upd; split <;> rfl
/-- two objects of different content stand apart -/
theorem ne_of {H : Hp} {a b : Addr} {o u : HO} (h : H a = some o) (h' : H b = some u) (d : o ≠ u) : a ≠ b := by
  intro e; subst e; rw [h] at h'; exact d (Option.some.inj h')
theorem ne_of_none {H : Hp} {a b : Addr} {o : HO} (h : H a = some o) (h' : H b = none) : a ≠ b := by
  intro e; subst e; rw [h] at h'; cases h'

def TupN (h : Heap) (a : Addr) (its : Array Value) : Prop := IsTup h a its ∧ ∃ o, h.get? a = some o ∧ o.dict = none
theorem TupN.new (h : Heap) (its : Array Value) : TupN (h.push { cls := .type "tuple", data := .seq its }) h.objs.size its := ⟨IsTup.new _ _, _, Heap.get?_push_size _ rfl, rfl⟩
section
variable (P : Program) (w : World)
def ObjOk (H : Hp) (h : Heap) (a : Addr) : HO → Prop
  | .lst xs => xs.length ≤ sizeLine ∧ ∃ (its : List Value) (n : Nat), Vals xs its ∧ h.get? a = some { cls := .type "list", data := .seq its.toArray n }
  | .tup xs => xs.length ≤ sizeLine ∧ ∃ its : List Value, Vals xs its ∧ TupN h a its.toArray
  | .dK kvs => kvs.length ≤ sizeLine ∧ (a == sysModules) = false ∧ ∃ vs, KV kvs vs ∧ h.DictOf (mixKind P w) a vs
  | .dT kvs => kvs.length ≤ sizeLine ∧ (a == sysModules) = false ∧ ∃ xs : List (List Key × Addr × Value),
      Paired (fun (p : List Key × V) (q : List Key × Addr × Value) => p.1 = q.1 ∧ H q.2.1 = some (.tup (p.1.map kV)) ∧ RelV p.2 q.2.2) kvs xs ∧
      ∃ o es ep, h.get? a = some o ∧ o.ExactDict ∧ o.data = .dict es ep ∧ es.toList = xs.map (entryOfKey (tupleKind (mixKind P w))) ∧ (xs.map (·.1)).Nodup
  | .set S n => h.SetOf (intKind P w) a S n
  | .ins C dx fs => H dx = some (.own a) ∧ fs.length ≤ 1000 ∧ dx ≠ a ∧ h.get? a = some (PySem.W.instObj C dx) ∧
      ∃ mA, h.Ns1 dx mA ∧ (∀ f, RelO (fs.lookup f) (mA f)) ∧ PySem.Within mA (fs.map (·.1))
  | .own _ => ∃ o, h.get? a = some o
  | .xd fs => ∃ mA, h.Ns1 a mA ∧ ∀ f, RelO (fs.lookup f) (mA f)
  | .rng lo hi => ∃ t u v, h.get? a = some { cls := .type "range", data := .fields #[.int lo t, .int hi u, .int 1 v] }
  | .frz o u => h.get? a = some o ∧ ObjOk H h a u
  | .tbl ps => h.get? a = some { cls := .none, data := .fields ps }
  | .met f x => h.get? a = some (PySem.W.methodObj (.ref f) (.ref x))
  | .ext φ => φ h ∧ (∃ o, h.get? a = some o) ∧ ∀ h1 h2 : Heap, φ h1 → (∀ o, h1.get? a = some o → h2.get? a = some o) → φ h2
/-- the abstract heap is held -/
def HOk (H : Hp) (h : Heap) : Prop := ∀ a o, H a = some o → ObjOk P w H h a o
end

section
variable {P : Program} {w : World} {H H' : Hp} {h h' : Heap} {a : Addr} {o : HO}
theorem ObjOk.lt (x : ObjOk P w H h a o) : a < h.objs.size := by
  cases o with
  | lst xs => obtain ⟨_, _, _, _, e⟩ := x; exact Heap.lt_size e
  | tup xs => obtain ⟨_, _, _, p⟩ := x; exact p.1.lt
  | dK kvs => obtain ⟨_, _, _, _, o, _, _, e, _⟩ := x; exact Heap.lt_size e
  | dT kvs => obtain ⟨_, _, _, _, o, _, _, e, _⟩ := x; exact Heap.lt_size e
  | set S n => obtain ⟨o, _, _, _, e, _⟩ := x; exact Heap.lt_size e
  | ins C dx fs => obtain ⟨_, _, _, e, _⟩ := x; exact Heap.lt_size e
  | own y => obtain ⟨_, e⟩ := x; exact Heap.lt_size e
  | xd fs => obtain ⟨_, ⟨_, _, _, e, _⟩, _⟩ := x; exact Heap.lt_size e
  | rng lo hi => obtain ⟨_, _, _, e⟩ := x; exact Heap.lt_size e
  | frz ob u => obtain ⟨e, _⟩ := x; exact Heap.lt_size e
  | tbl ps => exact Heap.lt_size (show h.get? a = some _ from x)
  | met f y => exact Heap.lt_size (show h.get? a = some _ from x)
  | ext φ => obtain ⟨_, ⟨_, e⟩, _⟩ := x; exact Heap.lt_size e
theorem Paired.mapP {α β : Type} {F G : α → β → Prop} : ∀ {l₁ : List α} {l₂ : List β}, Paired F l₁ l₂ → (∀ a b, F a b → G a b) → Paired G l₁ l₂
  | _, _, .nil, _ => .nil
  | _, _, .cons r t, f => .cons (f _ _ r) (Paired.mapP t f)
theorem Paired.imp' {α β : Type} {F G : α → β → Prop} (f : ∀ a b, F a b → G a b) {l₁ : List α} {l₂ : List β} (r : Paired F l₁ l₂) : Paired G l₁ l₂ := Paired.mapP r f
/-- what an object's description leans on: its own object, its own dict, the tuples -/
theorem ObjOk.stay (x : ObjOk P w H h a o) (k : ∀ b u, (b = a ∨ H b = some (.own a)) → h.get? b = some u → h'.get? b = some u)
    (ho : ∀ b, H b = some (.own a) → H' b = some (.own a)) (ht : ∀ b xs, H b = some (.tup xs) → H' b = some (.tup xs)) : ObjOk P w H' h' a o := by
  induction o with
  | lst xs => obtain ⟨z, its, n, r, e⟩ := x; exact ⟨z, its, n, r, k _ _ (.inl rfl) e⟩
  | tup xs => obtain ⟨z, its, r, ⟨ob, e, c⟩, o2, e2, c2⟩ := x; exact ⟨z, its, r, ⟨ob, k _ _ (.inl rfl) e, c⟩, o2, k _ _ (.inl rfl) e2, c2⟩
  | dK kvs => obtain ⟨z, y, vs, r, ob, es, ep, e, c⟩ := x; exact ⟨z, y, vs, r, ob, es, ep, k _ _ (.inl rfl) e, c⟩
  | dT kvs =>
    obtain ⟨z, y, xs, r, ob, es, ep, e, c⟩ := x
    exact ⟨z, y, xs, Paired.mapP r fun p q z => ⟨z.1, ht _ _ z.2.1, z.2.2⟩, ob, es, ep, k _ _ (.inl rfl) e, c⟩
  | set S n => obtain ⟨ob, es, ep, t, e, c⟩ := x; exact ⟨ob, es, ep, t, k _ _ (.inl rfl) e, c⟩
  | ins C dx fs =>
    obtain ⟨d, z, ne, e, mA, ⟨od, es, ep, e2, c⟩, r⟩ := x
    exact ⟨ho _ d, z, ne, k _ _ (.inl rfl) e, mA, ⟨od, es, ep, k _ _ (.inr d) e2, c⟩, r⟩
  | own y => obtain ⟨ob, e⟩ := x; exact ⟨ob, k _ _ (.inl rfl) e⟩
  | xd fs => obtain ⟨mA, ⟨od, es, ep, e, c⟩, r⟩ := x; exact ⟨mA, ⟨od, es, ep, k _ _ (.inl rfl) e, c⟩, r⟩
  | rng lo hi => obtain ⟨t, u, v, e⟩ := x; exact ⟨t, u, v, k _ _ (.inl rfl) e⟩
  | frz ob u ih => obtain ⟨e, q⟩ := x; exact ⟨k _ _ (.inl rfl) e, ih q⟩
  | tbl ps =>
    have e : h.get? a = some { cls := .none, data := .fields ps } := x
    show h'.get? a = some { cls := .none, data := .fields ps }
    exact k a _ (.inl rfl) e
  | met f y =>
    have e : h.get? a = some (PySem.W.methodObj (.ref f) (.ref y)) := x
    show h'.get? a = some (PySem.W.methodObj (.ref f) (.ref y))
    exact k a _ (.inl rfl) e
  | ext φ => obtain ⟨p, ⟨o, e⟩, st⟩ := x; exact ⟨st _ _ p fun o q => k _ _ (.inl rfl) q, ⟨o, k _ _ (.inl rfl) e⟩, st⟩
theorem HOk.lt (x : HOk P w H h) (e : H a = some o) : a < h.objs.size := (x a o e).lt
theorem HOk.fresh (x : HOk P w H h) (e : h.objs.size ≤ a) : H a = none := by
  cases q : H a with
  | none => rfl
  | some u => exact absurd (Nat.lt_of_lt_of_le (x.lt q) e) (Nat.lt_irrefl _)
/-- every object of the heap is kept -/
theorem HOk.kept (x : HOk P w H h) (k : ∀ b u, h.get? b = some u → h'.get? b = some u) : HOk P w H h' := fun a o e =>
  (x a o e).stay (fun b u _ q => k b u q) (fun _ q => q) fun _ _ q => q
/-- a new object is laid and tracked -/
theorem HOk.laid (x : HOk P w H h) (k : ∀ b u, h.get? b = some u → h'.get? b = some u) (hp : h.objs.size ≤ a) (new : ObjOk P w (upd H a o) h' a o) : HOk P w (upd H a o) h' := fun b u e => by
  have hn := x.fresh hp
  by_cases hb : b = a
  · subst hb; rw [upd_same] at e; cases e; exact new
  · rw [upd_ne hb] at e
    exact (x b u e).stay (fun c v _ q => k c v q) (fun c q => by rw [upd_ne (ne_of_none q hn)]; exact q) fun c xs q => by rw [upd_ne (ne_of_none q hn)]; exact q
end

/-- what may be read as u: it is u, or a known u -/
def Rd (H : Hp) (a : Addr) (u : HO) : Prop := H a = some u ∨ ∃ o, H a = some (.frz o u)
theorem Rd.of {H : Hp} {a : Addr} {u : HO} (h : H a = some u) : Rd H a u := .inl h
theorem Rd.ok {P : Program} {w : World} {H : Hp} {h : Heap} {a : Addr} {u : HO} (r : Rd H a u) (x : HOk P w H h) : ObjOk P w H h a u := by
  rcases r with r | ⟨o, r⟩
  · exact x a u r
  · obtain ⟨_, q⟩ := x a _ r
    exact q
/-- what may be written -/
def Mut : Option HO → Prop
  | some (.lst _) => True
  | some (.dK _) => True
  | some (.dT _) => True
  | some (.set _ _) => True
  | some (.ins _ _ _) => True
  | some (.ext _) => True
  | _ => False
section
variable {P : Program} {w : World} {H : Hp} {h h' : Heap} {x e : Addr} {o' : HO}
/-- the object at e is changed: x itself, or the dict of the instance x -/
theorem HOk.write (ok : HOk P w H h) (mu : Mut (H x)) (he : e = x ∨ H e = some (.own x)) (k : ∀ b u, b ≠ e → h.get? b = some u → h'.get? b = some u) (heo : ∃ u, h'.get? e = some u)
    (new : ObjOk P w (upd H x o') h' x o') : HOk P w (upd H x o') h' := fun b u q => by
  have nown : ∀ c y, H c = some (.own y) → c ≠ x := fun c y r z => by subst z; rw [r] at mu; exact mu
  have ntup : ∀ c xs, H c = some (.tup xs) → c ≠ x := fun c xs r z => by subst z; rw [r] at mu; exact mu
  by_cases hb : b = x
  · subst hb; rw [upd_same] at q; cases q; exact new
  · rw [upd_ne hb] at q
    by_cases hbe : b = e
    · have q' : H b = some (.own x) := by
        rcases he with z | z
        · exact absurd (hbe.trans z) hb
        · rw [hbe]; exact z
      rw [q] at q'; cases q'
      obtain ⟨v, hv⟩ := heo
      exact ⟨v, by rw [hbe]; exact hv⟩
    · refine (ok b u q).stay (fun c v hc r => k c v ?_ r) (fun c r => by rw [upd_ne (nown c b r)]; exact r) fun c xs r => by rw [upd_ne (ntup c xs r)]; exact r
      rcases hc with rfl | hc
      · exact hbe
      · rintro rfl
        rcases he with z | z
        · exact nown c b hc z
        · rw [hc] at z; cases z; exact hb rfl
end

/-! ### kept unless tracked; of the frames at fs (the callers') the slots may change (an exception that passes writes there); of the records at ex (iterators) nothing is said -/
structure Un (fs ex : List Addr) (H H' : Hp) (h h' : Heap) : Prop where
  keep : ∀ b o, h.get? b = some o → H b = none → b ∉ fs → b ∉ ex → h'.get? b = some o
  slot : ∀ b o, h.get? b = some o → H b = none → b ∈ fs → b ∉ ex → ∃ sl, h'.get? b = some { o with slots := sl }
  free : ∀ b o, h.get? b = some o → H b = none → b ∉ ex → H' b = none
  there : ∀ b o, h.get? b = some o → b ∉ ex → ∃ o', h'.get? b = some o'
  tups : ∀ b xs, H b = some (.tup xs) → H' b = some (.tup xs)
  frzs : ∀ b o u, H b = some (.frz o u) → H' b = some (.frz o u)
  tbls : ∀ b ps, H b = some (.tbl ps) → ∃ more, H' b = some (.tbl (ps ++ more))
section
variable {fs fs' ex ex' : List Addr} {H H1 H2 : Hp} {h h1 h2 h' : Heap} {a x e : Addr} {o : HO}
theorem Un.any (u : Un fs ex H H1 h h1) {b : Addr} {ob : Obj} (q : h.get? b = some ob) (n : H b = none) (hx : b ∉ ex) : ∃ sl, h1.get? b = some { ob with slots := sl } := by
  by_cases hb : b ∈ fs
  · exact u.slot b ob q n hb hx
  · exact ⟨ob.slots, u.keep b ob q n hb hx⟩
theorem Un.trans (a : Un fs ex H H1 h h1) (b : Un fs ex H1 H2 h1 h2) : Un fs ex H H2 h h2 where
  keep := fun c ob q n hc hx => b.keep c ob (a.keep c ob q n hc hx) (a.free c ob q n hx) hc hx
  slot := fun c ob q n hc hx => by
    obtain ⟨sl, e1⟩ := a.slot c ob q n hc hx
    obtain ⟨sl', e2⟩ := b.slot c _ e1 (a.free c ob q n hx) hc hx
    exact ⟨sl', e2⟩
  free := fun c ob q n hx => by
    obtain ⟨o', e1⟩ := a.there c ob q hx
    exact b.free c o' e1 (a.free c ob q n hx) hx
  there := fun c ob q hx => by
    obtain ⟨o', e1⟩ := a.there c ob q hx
    exact b.there c o' e1 hx
  tups := fun c xs q => b.tups c xs (a.tups c xs q)
  frzs := fun c ob xs q => b.frzs c ob xs (a.frzs c ob xs q)
  tbls := fun c ps q => by
    obtain ⟨m1, e1⟩ := a.tbls c ps q
    obtain ⟨m2, e2⟩ := b.tbls c _ e1
    exact ⟨m1 ++ m2, by rw [e2, Array.append_assoc]⟩
theorem Un.kept (k : ∀ b u, h.get? b = some u → h'.get? b = some u) : Un fs ex H H h h' :=
  ⟨fun b ob q _ _ _ => k b ob q, fun b ob q _ _ _ => ⟨ob.slots, k b ob q⟩, fun _ _ _ n _ => n, fun b ob q _ => ⟨ob, k b ob q⟩, fun _ _ q => q, fun _ _ _ q => q, fun _ ps q => ⟨#[], by rw [q]; simp⟩⟩
theorem Un.refl : Un fs ex H H h h := Un.kept fun _ _ q => q
theorem Un.laid (k : ∀ b u, h.get? b = some u → h'.get? b = some u) (hp : h.objs.size ≤ a) (hn : H a = none) : Un fs ex H (upd H a o) h h' where
  keep := fun b u q _ _ _ => k b u q
  slot := fun b u q _ _ _ => ⟨u.slots, k b u q⟩
  free := fun b u q n _ => by rw [upd_ne (Nat.ne_of_lt (Nat.lt_of_lt_of_le (Heap.lt_size q) hp))]; exact n
  there := fun b u q _ => ⟨u, k b u q⟩
  tups := fun b xs q => by rw [upd_ne (ne_of_none q hn)]; exact q
  frzs := fun b u xs q => by rw [upd_ne (ne_of_none q hn)]; exact q
  tbls := fun b ps q => ⟨#[], by rw [upd_ne (ne_of_none q hn), q]; simp⟩
theorem Un.write (mu : Mut (H x)) (he : e = x ∨ H e = some (.own x)) (k : ∀ b u, b ≠ e → h.get? b = some u → h'.get? b = some u) (heo : ∃ u, h'.get? e = some u) : Un fs ex H (upd H x o) h h' := by
  have hx : ∀ b, H b = none → b ≠ x := fun b n z => by subst z; rw [n] at mu; exact mu
  have hb : ∀ b, H b = none → b ≠ e := fun b n z => by
    subst z
    rcases he with r | r
    · exact hx b n r
    · rw [n] at r; cases r
  have hm : ∀ b u, H b = some u → ¬ Mut (some u) → b ≠ x := fun b u q nm z => by subst z; rw [q] at mu; exact nm mu
  refine ⟨fun b u q n _ _ => k b u (hb b n) q, fun b u q n _ _ => ⟨u.slots, k b u (hb b n) q⟩, fun b u q n _ => by rw [upd_ne (hx b n)]; exact n, fun b u q _ => ?_,
    fun b xs q => by rw [upd_ne (hm b _ q fun z => z)]; exact q, fun b u xs q => by rw [upd_ne (hm b _ q fun z => z)]; exact q, fun b ps q => ⟨#[], by rw [upd_ne (hm b _ q fun z => z), q]; simp⟩⟩
  by_cases hbe : b = e
  · subst hbe; exact heo
  · exact ⟨u, k b u hbe q⟩
theorem Un.mono (u : Un fs ex H H1 h h1) (hs : ∀ b ∈ fs, b ∈ fs') (hx : ∀ b ∈ ex, b ∈ ex') : Un fs' ex' H H1 h h1 :=
  ⟨fun b ob q n hb he => u.keep b ob q n (fun z => hb (hs b z)) fun z => he (hx b z), fun _ _ q n _ he => u.any q n fun z => he (hx _ z), fun b ob q n he => u.free b ob q n fun z => he (hx b z), fun b ob q he => u.there b ob q fun z => he (hx b z), u.tups, u.frzs, u.tbls⟩
end

/-! ### the heap without what is tracked -/
def trk (h : Heap) (H : Hp) : List Addr := (List.range h.objs.size).filter fun a => (H a).isSome
def hidT (h : Heap) (H : Hp) : Heap := PySem.W.hideAll h (trk h H)
theorem hidT_size (h : Heap) (H : Hp) : (hidT h H).objs.size = h.objs.size := PySem.W.hideAll_size _ _
theorem hidT_get {h : Heap} {H : Hp} {b : Addr} {o : Obj} (e : h.get? b = some o) (n : H b = none) : (hidT h H).get? b = some o :=
  PySem.W.hideAll_get _ e fun hm => by
    have q : (H b).isSome = true := (List.mem_filter.mp hm).2
    rw [n] at q; simp at q
theorem of_hidT {h : Heap} {H : Hp} {b : Addr} {o : Obj} (e : (hidT h H).get? b = some o) : h.get? b = some o ∧ H b = none := by
  have e' : h.get? b = some o := PySem.W.of_hideAll (trk h H) e
  refine ⟨e', ?_⟩
  cases q : H b with
  | none => rfl
  | some x =>
    have hm : b ∈ trk h H := List.mem_filter.mpr ⟨List.mem_range.mpr (Heap.lt_size e'), by simp [q]⟩
    have z : (hidT h H).get? b = none := PySem.W.hideAll_none (trk h H) hm
    rw [z] at e; cases e

/-! ### OpenK's ledger, filled with every new object but one -/
def allNews (g h : Heap) (L : Addr) : List (Addr × Obj) := (List.range h.objs.size).filterMap fun a => if a = L ∨ (g.get? a).isSome = true then none else (h.get? a).map fun o => (a, o)
theorem mem_allNews {g h : Heap} {L a : Addr} {o : Obj} (h1 : a ≠ L) (h2 : g.get? a = none) (h3 : h.get? a = some o) : (a, o) ∈ allNews g h L :=
  List.mem_filterMap.mpr ⟨a, List.mem_range.mpr (Heap.lt_size h3), by simp [h1, h2, h3]⟩
theorem of_mem_allNews {g h : Heap} {L : Addr} {p : Addr × Obj} (hp : p ∈ allNews g h L) : p.1 ≠ L ∧ g.get? p.1 = none ∧ h.get? p.1 = some p.2 := by
  obtain ⟨b, _, e⟩ := List.mem_filterMap.mp hp
  split at e
  · cases e
  · rename_i hn
    cases q : h.get? b with
    | none => rw [q] at e; simp at e
    | some u =>
      rw [q] at e
      simp only [Option.map_some, Option.some.injEq] at e
      subst e
      refine ⟨fun z => hn (.inl z), ?_, q⟩
      show g.get? b = none
      cases r : g.get? b with
      | none => rfl
      | some v => exact (hn (.inr (by simp [r]))).elim
def rest (g h : Heap) (L d : Addr) : List (Addr × Obj) := (allNews g h L).filter fun p => decide (p.1 ≠ d)
theorem rest_ne {g h : Heap} {L d : Addr} : ∀ p ∈ rest g h L d, p.1 ≠ d := fun p hp => of_decide_eq_true (List.mem_filter.mp hp).2
theorem mem_rest {g h : Heap} {L d a : Addr} {o : Obj} (h1 : a ≠ L) (h2 : g.get? a = none) (h3 : h.get? a = some o) (h4 : a ≠ d) : (a, o) ∈ rest g h L d :=
  List.mem_filter.mpr ⟨mem_allNews h1 h2 h3, decide_eq_true h4⟩
theorem news_all {g h : Heap} {L : Addr} : News g L h (allNews g h L) := fun p hp => let ⟨a, b, c⟩ := of_mem_allNews hp; ⟨c, a, b⟩
theorem news_at {g h : Heap} {L d : Addr} {o : Obj} (h1 : d ≠ L) (h2 : g.get? d = none) (h3 : h.get? d = some o) : News g L h ((d, o) :: rest g h L d) := fun p hp => by
  rcases List.mem_cons.mp hp with rfl | hp
  · exact ⟨h3, h1, h2⟩
  · exact news_all p (List.mem_filter.mp hp).1
/-- behind a rule that changed d alone: all else but the frame is kept -/
theorem kept_of_news {g h h' : Heap} {L d : Addr} {m : Str → Option Value} (k : ∀ b o, g.get? b = some o → h.get? b = some o) (F : Fr g L h' m) (N : News g L h' (rest g h L d)) :
    ∀ b o, b ≠ L → b ≠ d → h.get? b = some o → h'.get? b = some o := fun b o h1 h2 e => by
  cases q : g.get? b with
  | some u =>
    have := k b u q
    rw [e] at this; cases this
    exact F.keep b _ q
  | none => exact (N (b, o) (mem_rest h1 q e h2)).1
end L2

namespace L2
open PySem PySem.Spec PyProof.Rows

/-- the module's facts, over the base: the heap at the law's entry without what is tracked there -/
structure Mod (K : PySem.W.Frag) (mg : Str → Option Value) (base : Heap) : Prop where
  kin : K.In base
  glob : base.Ns mainGlobals mg
  blt : ∃ mb, base.Ns builtinsNs mb ∧ ∀ x : Str, x ≠ "__name__" → mb x = bootBuiltins x
  nolimit : base.NoLimit

/-- the context: a def's body (or a comprehension's block) running. base: fixed through the whole law; s₀, H₀: the entry; outer: the frames whose slots others may change (a def's callers); stack: all frames that run;
   ex: iterators that were made ahead of the entry and are walked here (a comprehension's); fn: the names whose cells were made at the entry (a def: all; a comprehension's block: its own); calm: not within an except suite; pn: pins that every state bears; xe: what is wanted of an exception that leaves the code -/
structure Cx where
  prog : Program
  w : World
  K : PySem.W.Frag
  mg : Str → Option Value
  base : Heap
  A : Around
  N : List Str
  s₀ : Shared
  H₀ : Hp
  env : Env
  outer : List Env
  stack : List Env
  ex : List Addr
  fn : Str → Bool
  calm : Bool
  pn : List (Addr × Obj)
  xe : Value → Shared → Prop
/-- the callers' frames -/
def frs (l : List Env) : List Addr := l.filterMap (·.frame)
abbrev Cx.fs (X : Cx) : List Addr := frs X.outer

def Vis (sc : Scope) (x : Str) : Prop := sc.names.lookup x = some .local ∨ sc.names.lookup x = some .cell ∨ sc.names.lookup x = some .free
def Loc (sc : Scope) (x : Str) : Prop := sc.names.lookup x = some .local ∨ sc.names.lookup x = some .cell
def Look (env : Env) (h : Heap) (m : Str → Option Value) (x : Str) (u : Value) : Prop :=
  (env.kindOf x = some .local ∧ m x = some u) ∨ ((env.kindOf x = some .cell ∨ env.kindOf x = some .free) ∧ ∃ c, env.cells.lookup x = some c ∧ h.IsCell c (some u))

structure Cx.Ok (X : Cx) : Prop where
  mod : Mod X.K X.mg X.base
  kind : X.env.scope.kind = .function
  glob : X.env.globals = mainGlobals
  blt : X.env.builtins = builtinsNs
  above : X.s₀.heap.objs.size ≤ X.env.locals
  inj : ∀ x y c, X.env.cells.lookup x = some c → X.env.cells.lookup y = some c → x = y
  has : ∀ x, (X.env.kindOf x = some .cell ∨ X.env.kindOf x = some .free) → ∃ c, X.env.cells.lookup x = some c
  cab : ∀ x c, X.fn x = true → X.env.cells.lookup x = some c → X.s₀.heap.objs.size ≤ c
  hd : X.calm = true → X.A.handled = none
  frames : X.A.frames = some X.stack
  stk : X.stack = X.outer ∨ (X.stack = X.env :: X.outer ∧ X.env.frame = some X.env.locals)
  exf : ∀ b ∈ X.ex, b ≠ X.env.locals ∧ ∀ x c, X.env.cells.lookup x = some c → c ≠ b
  bs : ∀ b o, X.base.get? b = some o → X.s₀.heap.get? b = some o ∧ X.H₀ b = none
  bsz : X.base.objs.size ≤ X.s₀.heap.objs.size
  noex : ∀ b o, X.base.get? b = some o → b ∉ X.ex
  exfs : ∀ b ∈ X.ex, b ∉ X.fs
  funs : X.s₀.heap.FunFrames X.base X.outer
  frf : ∀ b ∈ X.fs, X.H₀ b = none

structure Inv (X : Cx) (pins : List (Addr × Obj)) (σ : List (Option V)) (H : Hp) (s : Shared) : Prop where
  ok : X.Ok
  os : s.os = X.s₀.os
  bare : AllBare s.gens
  base : Un X.fs X.ex X.H₀ H X.s₀.heap s.heap
  loc : ∃ m, s.heap.Ns X.env.locals m ∧ ∀ (i : Nat) (x : Str) (v : V), X.N[i]? = some x → σ[i]? = some (some v) → Vis X.env.scope x → ∃ u, RelV v u ∧ Look X.env s.heap m x u
  cell : ∀ x c, X.env.cells.lookup x = some c → ∃ v, s.heap.IsCell c v
  free : H X.env.locals = none
  freeC : ∀ x c, X.env.cells.lookup x = some c → H c = none
  pin : ∀ p ∈ X.pn ++ pins, s.heap.get? p.1 = some p.2 ∧ H p.1 = none ∧ p.1 ≠ X.env.locals ∧ p.1 ∉ X.fs ∧ ∀ v, p.2.data ≠ .cell v
  hok : HOk X.prog X.w H s.heap
  len : σ.length = X.N.length

section
variable {X : Cx} {pins : List (Addr × Obj)} {σ : List (Option V)} {H H' : Hp} {s : Shared} {h' : Heap}

theorem Cx.Ok.nofr (ok : X.Ok) {b : Addr} {o : Obj} (e : X.base.get? b = some o) : b ∉ X.fs := fun hb => by
  have := (ok.funs.mem hb).1
  rw [e] at this; cases this
theorem Inv.bs (I : Inv X pins σ H s) : ∀ b o, X.base.get? b = some o → s.heap.get? b = some o ∧ H b = none := fun b o e =>
  ⟨I.base.keep b o (I.ok.bs b o e).1 (I.ok.bs b o e).2 (I.ok.nofr e) (I.ok.noex b o e), I.base.free b o (I.ok.bs b o e).1 (I.ok.bs b o e).2 (I.ok.noex b o e)⟩
theorem Inv.bk (I : Inv X pins σ H s) : ∀ b o, X.base.get? b = some o → s.heap.get? b = some o := fun b o e => (I.bs b o e).1
theorem Inv.mod (I : Inv X pins σ H s) : Mod X.K X.mg X.base := I.ok.mod
theorem Inv.kIn (I : Inv X pins σ H s) : X.K.In s.heap := I.ok.mod.kin.keeps I.bk
theorem Inv.nolimit (I : Inv X pins σ H s) : s.heap.NoLimit := I.ok.mod.nolimit.keeps I.bk
/-- the frame over the base: for OpenK's rules (K.In X.base is I.mod.kin) -/
theorem Inv.fr (I : Inv X pins σ H s) : ∃ m, Fr X.base X.env.locals s.heap m :=
  let ⟨m, hn, _⟩ := I.loc
  ⟨m, hn, I.bk, Nat.le_trans I.ok.bsz I.ok.above⟩
theorem Inv.lt (I : Inv X pins σ H s) : X.env.locals < s.heap.objs.size := let ⟨_, hn, _⟩ := I.loc; hn.lt
theorem Inv.sz (I : Inv X pins σ H s) : X.s₀.heap.objs.size ≤ s.heap.objs.size := Nat.le_trans I.ok.above (Nat.le_of_lt I.lt)
theorem Inv.nofs (I : Inv X pins σ H s) {a : Addr} (h : s.heap.objs.size ≤ a) : a ∉ X.fs := fun hb => by
  obtain ⟨_, o, ho, _⟩ := I.ok.funs.mem hb
  exact absurd (Nat.lt_of_lt_of_le (Heap.lt_size ho) (Nat.le_trans I.sz h)) (Nat.lt_irrefl _)
theorem Inv.cne (I : Inv X pins σ H s) : ∀ x c, X.env.cells.lookup x = some c → c ≠ X.env.locals := fun x c e z => by
  obtain ⟨v, o, ho, hd⟩ := I.cell x c e
  obtain ⟨m, ⟨o', es, ep, ho', hd', _⟩, _⟩ := I.loc
  rw [z, ho'] at ho; cases ho; rw [hd'] at hd; cases hd
theorem Inv.funs (I : Inv X pins σ H s) : s.heap.FunFrames X.base X.outer := by
  have all : ∀ (l : List Env), (∀ b ∈ frs l, b ∈ X.fs) → X.s₀.heap.FunFrames X.base l → s.heap.FunFrames X.base l := by
    intro l
    induction l with
    | nil => intro _ _; trivial
    | cons env r ih =>
      intro hs hl
      obtain ⟨hk, ⟨L, o, hf, hn, ho, hd⟩, hr⟩ := hl
      have hL : L ∈ X.fs := hs L (by unfold frs; rw [List.filterMap_cons, hf]; exact List.mem_cons_self)
      obtain ⟨sl, e⟩ := I.base.slot L o ho (I.ok.frf L hL) hL fun z => I.ok.exfs L z hL
      exact ⟨hk, ⟨L, _, hf, hn, e, hd⟩, ih (fun b hb => hs b (by unfold frs; rw [List.filterMap_cons, hf]; exact List.mem_cons_of_mem _ hb)) hr⟩
  exact all X.outer (fun _ hb => hb) I.ok.funs

/-- the frames that run, for a call -/
theorem Inv.stack (I : Inv X pins σ H s) : s.heap.FunFrames X.base X.stack := by
  rcases I.ok.stk with e | ⟨e, hf⟩
  · rw [e]; exact I.funs
  · rw [e]
    obtain ⟨m, hn, _⟩ := I.loc
    refine .cons (by rw [I.ok.kind]; decide) hf hn ?_ I.funs
    exact Heap.get?_none_of_le (Nat.le_trans I.ok.bsz I.ok.above)
theorem Inv.stkSub (I : Inv X pins σ H s) : ∀ b ∈ frs X.stack, b ∈ X.env.locals :: X.fs := fun b hb => by
  rcases I.ok.stk with e | ⟨e, hf⟩
  · rw [e] at hb; exact List.mem_cons_of_mem _ hb
  · rw [e] at hb
    unfold frs at hb
    rw [List.filterMap_cons, hf] at hb
    exact hb
theorem Inv.stkFree (I : Inv X pins σ H s) : ∀ b ∈ frs X.stack, H b = none := fun b hb => by
  rcases List.mem_cons.mp (I.stkSub b hb) with e | hb
  · rw [e]; exact I.free
  · obtain ⟨_, o, ho, _⟩ := I.ok.funs.mem hb
    exact I.base.free b o ho (I.ok.frf b hb) fun z => I.ok.exfs b z hb

/-- THE STEP: the untracked objects but the frame and the records at ch are kept (the callers' frames up to slots), the frame's map is kept, the new abstract heap is held -/
theorem Inv.step {g' : Array GenState} {t' : Nat} {d' : Drawn} {ch : List Addr} (I : Inv X pins σ H s)
    (hch : ∀ b ∈ ch, (b ∈ X.ex ∨ X.s₀.heap.objs.size ≤ b) ∧ b ≠ X.env.locals ∧ (∀ x c, X.env.cells.lookup x = some c → c ≠ b) ∧ ∀ p ∈ X.pn ++ pins, p.1 ≠ b)
    (keep : ∀ b o, b ≠ X.env.locals → b ∉ X.fs → b ∉ ch → s.heap.get? b = some o → H b = none → h'.get? b = some o)
    (slot : ∀ b o, b ≠ X.env.locals → b ∈ X.fs → b ∉ ch → s.heap.get? b = some o → H b = none → ∃ sl, h'.get? b = some { o with slots := sl }) (free : ∀ b o, b ∉ ch → s.heap.get? b = some o → H b = none → H' b = none)
    (there : ∀ b o, b ∉ ch → s.heap.get? b = some o → ∃ o', h'.get? b = some o')
    (tups : ∀ b xs, H b = some (.tup xs) → H' b = some (.tup xs)) (frzs : ∀ b o u, H b = some (.frz o u) → H' b = some (.frz o u)) (tbls : ∀ b ps, H b = some (.tbl ps) → ∃ more, H' b = some (.tbl (ps ++ more)))
    (ns : ∀ m, s.heap.Ns X.env.locals m → h'.Ns X.env.locals m) (hok : HOk X.prog X.w H' h') (hg : AllBare g') :
    Inv X pins σ H' { s with heap := h', gens := g', drawn := d', toks := t' } := by
  have neL : ∀ b o, X.s₀.heap.get? b = some o → b ≠ X.env.locals := fun b o e => Nat.ne_of_lt (Nat.lt_of_lt_of_le (Heap.lt_size e) I.ok.above)
  have neC : ∀ b o, X.s₀.heap.get? b = some o → b ∉ X.ex → b ∉ ch := fun b o e hx hb => by
    rcases (hch b hb).1 with z | z
    · exact hx z
    · exact absurd (Nat.lt_of_lt_of_le (Heap.lt_size e) z) (Nat.lt_irrefl _)
  have cellK : ∀ x c, X.env.cells.lookup x = some c → ∀ v, s.heap.IsCell c v → h'.IsCell c v := fun x c e v ⟨o, ho, hd⟩ => by
    have nch : c ∉ ch := fun z => (hch c z).2.2.1 x c e rfl
    by_cases hc : c ∈ X.fs
    · obtain ⟨sl, q⟩ := slot c o (I.cne x c e) hc nch ho (I.freeC x c e)
      exact ⟨_, q, hd⟩
    · exact ⟨o, keep c o (I.cne x c e) hc nch ho (I.freeC x c e), hd⟩
  refine ⟨I.ok, I.os, hg, ⟨fun b o e n hb hx => ?_, fun b o e n hb hx => ?_, fun b o e n hx => ?_, fun b o e hx => ?_, fun b xs e => tups b xs (I.base.tups b xs e), fun b o xs e => frzs b o xs (I.base.frzs b o xs e), fun b ps e => ?_⟩, ?_, fun x c e => ?_, ?_, fun x c e => ?_, fun p hp => ?_, hok, I.len⟩
  · exact keep b o (neL b o e) hb (neC b o e hx) (I.base.keep b o e n hb hx) (I.base.free b o e n hx)
  · obtain ⟨sl, e1⟩ := I.base.slot b o e n hb hx
    obtain ⟨sl', e2⟩ := slot b _ (neL b o e) hb (neC b o e hx) e1 (I.base.free b o e n hx)
    exact ⟨sl', e2⟩
  · obtain ⟨o', e1⟩ := I.base.there b o e hx
    exact free b o' (neC b o e hx) e1 (I.base.free b o e n hx)
  · obtain ⟨o', e1⟩ := I.base.there b o e hx
    exact there b o' (neC b o e hx) e1
  · obtain ⟨m1, e1⟩ := I.base.tbls b ps e
    obtain ⟨m2, e2⟩ := tbls b _ e1
    exact ⟨m1 ++ m2, by rw [e2, Array.append_assoc]⟩
  · obtain ⟨m, hn, hl⟩ := I.loc
    refine ⟨m, ns m hn, fun i x v e1 e2 e3 => ?_⟩
    obtain ⟨u, r, l⟩ := hl i x v e1 e2 e3
    refine ⟨u, r, ?_⟩
    rcases l with l | ⟨k, c, e, z⟩
    · exact .inl l
    · exact .inr ⟨k, c, e, cellK x c e _ z⟩
  · obtain ⟨v, z⟩ := I.cell x c e
    exact ⟨v, cellK x c e v z⟩
  · obtain ⟨m, ⟨o, _, _, ho, _⟩, _⟩ := I.loc
    exact free _ o (fun z => (hch _ z).2.1 rfl) ho I.free
  · obtain ⟨v, o, ho, hd⟩ := I.cell x c e
    exact free c o (fun z => (hch c z).2.2.1 x c e rfl) ho (I.freeC x c e)
  · obtain ⟨e, n, ne, nf, d⟩ := I.pin p hp
    have nch : p.1 ∉ ch := fun z => (hch p.1 z).2.2.2 p hp rfl
    exact ⟨keep p.1 p.2 ne nf nch e n, free p.1 p.2 nch e n, ne, nf, d⟩
/-- .. where the frame's own object is kept too -/
theorem Inv.un {t' : Nat} (I : Inv X pins σ H s) (u : Un X.fs [] H H' s.heap h') (hok : HOk X.prog X.w H' h') : Inv X pins σ H' { s with heap := h', toks := t' } := by
  obtain ⟨m, ⟨o, es, ep, ho, r⟩, _⟩ := id I.loc
  obtain ⟨sl, hL⟩ := u.any ho I.free (by simp)
  exact I.step (g' := s.gens) (d' := s.drawn) (ch := []) (fun _ z => nomatch z) (fun b o _ hb _ e n => u.keep b o e n hb (by simp)) (fun b o _ hb _ e n => u.slot b o e n hb (by simp)) (fun b o _ e n => u.free b o e n (by simp)) (fun b o _ e => u.there b o e (by simp)) u.tups u.frzs u.tbls (fun m' hm => by
    obtain ⟨o', es', ep', ho', r'⟩ := hm
    rw [ho] at ho'; cases ho'
    exact ⟨_, es', ep', hL, r'⟩) hok I.bare
/-- behind a call (or a comprehension's block): the slots of this frame may have changed too, the records at ch may have turned -/
theorem Inv.call {g' : Array GenState} {t' : Nat} {d' : Drawn} {ch : List Addr} (I : Inv X pins σ H s) (u : Un (frs X.stack) ch H H' s.heap h') (hok : HOk X.prog X.w H' h') (hg : AllBare g')
    (hch : ∀ b ∈ ch, (b ∈ X.ex ∨ X.s₀.heap.objs.size ≤ b) ∧ b ≠ X.env.locals ∧ (∀ x c, X.env.cells.lookup x = some c → c ≠ b) ∧ ∀ p ∈ X.pn ++ pins, p.1 ≠ b) :
    Inv X pins σ H' { s with heap := h', gens := g', drawn := d', toks := t' } := by
  obtain ⟨m, ⟨o, es, ep, ho, r⟩, _⟩ := id I.loc
  obtain ⟨sl, hL⟩ := u.any ho I.free fun z => (hch _ z).2.1 rfl
  exact I.step (ch := ch) hch (fun b o hL hb hc e n => u.keep b o e n (fun z => (List.mem_cons.mp (I.stkSub b z)).elim hL hb) hc) (fun b o _ _ hc e n => u.any e n hc) (fun b o hc e n => u.free b o e n hc) (fun b o hc e => u.there b o e hc) u.tups u.frzs u.tbls (fun m' hm => by
    obtain ⟨o', es', ep', ho', r'⟩ := hm
    rw [ho] at ho'; cases ho'
    exact ⟨_, es', ep', hL, r'⟩) hok hg
/-- an untracked record of ours (an iterator) has turned -/
theorem Inv.turned {t' : Nat} {it : Addr} (I : Inv X pins σ H s) (k : ∀ b o, b ≠ it → s.heap.get? b = some o → h'.get? b = some o) (hn : H it = none) (hL : it ≠ X.env.locals)
    (h1 : it ∈ X.ex ∨ X.s₀.heap.objs.size ≤ it) (h2 : ∀ x c, X.env.cells.lookup x = some c → c ≠ it) (h3 : ∀ p ∈ X.pn ++ pins, p.1 ≠ it) : Inv X pins σ H { s with heap := h', toks := t' } := by
  have nit : ∀ b u, H b = some u → b ≠ it := fun b u e z => by rw [z, hn] at e; cases e
  refine I.step (g' := s.gens) (d' := s.drawn) (ch := [it]) (fun b hb => ?_) (fun b o _ _ hc e _ => k b o (fun z => hc (by simp [z])) e) (fun b o _ _ hc e _ => ⟨o.slots, k b o (fun z => hc (by simp [z])) e⟩) (fun _ _ _ _ n => n)
    (fun b o hc e => ⟨o, k b o (fun z => hc (by simp [z])) e⟩) (fun _ _ e => e) (fun _ _ _ e => e) (fun b ps e => ⟨#[], by rw [e]; simp⟩) (fun m hm => ?_) (fun b u e => ?_) I.bare
  · have e : b = it := by simpa using hb
    subst e
    exact ⟨h1, hL, h2, h3⟩
  · obtain ⟨o, es, ep, ho, r⟩ := hm
    exact ⟨o, es, ep, k _ o (Ne.symm hL) ho, r⟩
  · refine (I.hok b u e).stay (fun c v hc q => k c v ?_ q) (fun _ q => q) fun _ _ q => q
    rcases hc with z | z
    · rw [z]; exact nit b u e
    · exact nit c _ z
theorem Inv.tok (I : Inv X pins σ H s) (t : Nat) : Inv X pins σ H { s with toks := t } := I.un (h' := s.heap) (t' := t) Un.refl I.hok
/-- all objects kept -/
theorem Inv.kept {t' : Nat} (I : Inv X pins σ H s) (k : ∀ b u, s.heap.get? b = some u → h'.get? b = some u) : Inv X pins σ H { s with heap := h', toks := t' } := I.un (Un.kept k) (I.hok.kept k)
/-- a new object laid and tracked -/
theorem Inv.laid {a : Addr} {o : HO} {t' : Nat} (I : Inv X pins σ H s) (k : ∀ b u, s.heap.get? b = some u → h'.get? b = some u) (hp : s.heap.objs.size ≤ a) (new : ObjOk X.prog X.w (upd H a o) h' a o) :
    Inv X pins σ (upd H a o) { s with heap := h', toks := t' } := I.un (Un.laid k hp (I.hok.fresh hp)) (I.hok.laid k hp new)
/-- an object written -/
theorem Inv.write {x e : Addr} {o : HO} {t' : Nat} (I : Inv X pins σ H s) (mu : Mut (H x)) (he : e = x ∨ H e = some (.own x)) (k : ∀ b u, b ≠ e → s.heap.get? b = some u → h'.get? b = some u) (heo : ∃ u, h'.get? e = some u)
    (new : ObjOk X.prog X.w (upd H x o) h' x o) : Inv X pins σ (upd H x o) { s with heap := h', toks := t' } := I.un (Un.write mu he k heo) (I.hok.write mu he k heo new)
/-- forgetting slots, pins -/
theorem Inv.weak {σ' : List (Option V)} (I : Inv X pins σ H s) (hl : σ'.length = σ.length) (w : ∀ (i : Nat) v, σ'[i]? = some (some v) → σ[i]? = some (some v)) : Inv X pins σ' H s :=
  ⟨I.ok, I.os, I.bare, I.base, let ⟨m, hn, hl'⟩ := I.loc; ⟨m, hn, fun i x v e1 e2 e3 => hl' i x v e1 (w i v e2) e3⟩, I.cell, I.free, I.freeC, I.pin, I.hok, hl.trans I.len⟩
theorem Inv.pins_of {pins' : List (Addr × Obj)} (I : Inv X pins σ H s) (h : ∀ p ∈ pins', s.heap.get? p.1 = some p.2 ∧ H p.1 = none ∧ p.1 ≠ X.env.locals ∧ p.1 ∉ X.fs ∧ ∀ v, p.2.data ≠ .cell v) : Inv X pins' σ H s :=
  ⟨I.ok, I.os, I.bare, I.base, I.loc, I.cell, I.free, I.freeC, fun p hp => (List.mem_append.mp hp).elim (fun z => I.pin p (List.mem_append_left _ z)) (h p), I.hok, I.len⟩

theorem nodup_ix {N : List Str} (hN : N.Nodup) {i j : Nat} {x : Str} (a : N[i]? = some x) (b : N[j]? = some x) : i = j := by
  obtain ⟨h1, e1⟩ := List.getElem?_eq_some_iff.mp a
  obtain ⟨h2, e2⟩ := List.getElem?_eq_some_iff.mp b
  exact (List.getElem_inj hN).mp (e1.trans e2.symm)

/-- a name is stored; what changed -/
theorem store_ok2 {M : Model} {A : Around} {E : Value → Shared → Prop} {i : Nat} {x : Str} {v : V} {u : Value} {Q : Unit → Shared → Prop} (I : Inv X pins σ H s) (hN : X.N.Nodup) (hi : X.N[i]? = some x) (hx : Loc X.env.scope x) (r : RelV v u)
    (h : ∀ s', Inv X pins (σ.set i (some v)) H s' → (∃ a, Heap.SameBut a s.heap s'.heap ∧ (a = X.env.locals ∨ X.env.cells.lookup x = some a)) → Q () s') (hf : X.fn x = true ∨ X.env.scope.names.lookup x = some .local := by first | exact .inl rfl | exact .inr rfl | assumption) : wpAny M A (storeName X.env x u) Q E s := by
  obtain ⟨m, hn, hl⟩ := id I.loc
  have hcls : (X.env.scope.kind == .class || (X.env.scope.kind == .module && X.env.locals != X.env.globals)) = false := by rw [I.ok.kind]; rfl
  have hiσ : i < σ.length := by rw [I.len]; exact (List.getElem?_eq_some_iff.mp hi).1
  have cne := I.cne
  have tracked : ∀ {a : Addr} {h' : Heap}, (∃ o, s.heap.get? a = some o ∧ H a = none) → Heap.SameBut a s.heap h' → HOk X.prog X.w H h' := fun {a h'} ha hs b ob e => by
    obtain ⟨_, _, hfree⟩ := ha
    refine (I.hok b ob e).stay (fun c w' hc q => (hs.2 c ?_).trans q) (fun _ q => q) fun _ _ q => q
    rintro rfl
    rcases hc with rfl | hc
    · rw [hfree] at e; cases e
    · rw [hfree] at hc; cases hc
  rcases hx with hk | hk
  · refine wpAny_storeName_local hk hn (fun h' hn' hs => ?_) hcls
    obtain ⟨oL, _, _, hoL, _⟩ := id hn
    refine h _ ⟨I.ok, I.os, I.bare, ⟨fun b o e n hb hx => ?_, fun b o e n hb hx => ?_, I.base.free, fun b o e hx => ?_, I.base.tups, I.base.frzs, I.base.tbls⟩, ⟨_, hn', fun j y v' e1 e2 e3 => ?_⟩, fun y c e => ?_, I.free, I.freeC, fun p hp => ?_, tracked ⟨oL, hoL, I.free⟩ hs, by simpa using I.len⟩ ⟨_, hs, .inl rfl⟩
    · exact (hs.2 b (Nat.ne_of_lt (Nat.lt_of_lt_of_le (Heap.lt_size e) I.ok.above))).trans (I.base.keep b o e n hb hx)
    · obtain ⟨sl, e1⟩ := I.base.slot b o e n hb hx
      exact ⟨sl, (hs.2 b (Nat.ne_of_lt (Nat.lt_of_lt_of_le (Heap.lt_size e) I.ok.above))).trans e1⟩
    · obtain ⟨o', e1⟩ := I.base.there b o e hx
      exact ⟨o', (hs.2 b (Nat.ne_of_lt (Nat.lt_of_lt_of_le (Heap.lt_size e) I.ok.above))).trans e1⟩
    · by_cases hj : j = i
      · subst hj
        rw [hi] at e1; cases e1
        rw [List.getElem?_set_self hiσ] at e2
        cases e2
        exact ⟨u, r, .inl ⟨hk, by simp⟩⟩
      · rw [List.getElem?_set_ne (Ne.symm hj)] at e2
        obtain ⟨u', r', q⟩ := hl j y v' e1 e2 e3
        refine ⟨u', r', ?_⟩
        rcases q with ⟨k, e⟩ | ⟨k, c, e, z⟩
        · refine .inl ⟨k, ?_⟩
          have : y ≠ x := fun e => hj (nodup_ix hN e1 (e ▸ hi))
          simp [this, e]
        · exact .inr ⟨k, c, e, z.sameBut hs (cne y c e)⟩
    · obtain ⟨w', z⟩ := I.cell y c e
      exact ⟨w', z.sameBut hs (cne y c e)⟩
    · obtain ⟨e, n, ne, nf, d⟩ := I.pin p hp
      exact ⟨(hs.2 p.1 ne).trans e, n, ne, nf, d⟩
  · have hfn : X.fn x = true := by
      rcases hf with z | z
      · exact z
      · rw [z] at hk; cases hk
    obtain ⟨c, hc⟩ := I.ok.has x (.inl hk)
    obtain ⟨w', z⟩ := I.cell x c hc
    refine wpAny_storeName_cell I.ok.kind hk hc z (fun h' hc' hs => ?_)
    obtain ⟨oc, hoc, hocd⟩ := id z
    refine h { s with heap := h' } ⟨I.ok, I.os, I.bare, ⟨fun b o e n hb hx => ?_, fun b o e n hb hx => ?_, I.base.free, fun b o e hx => ?_, I.base.tups, I.base.frzs, I.base.tbls⟩, ⟨m, hn.sameBut hs (Ne.symm (cne x c hc)), fun j y v' e1 e2 e3 => ?_⟩, fun y c' e => ?_, I.free, I.freeC, fun p hp => ?_, tracked ⟨oc, hoc, I.freeC x c hc⟩ hs, by simpa using I.len⟩ ⟨c, hs, .inr hc⟩
    · exact (hs.2 b (Nat.ne_of_lt (Nat.lt_of_lt_of_le (Heap.lt_size e) (I.ok.cab x c hfn hc)))).trans (I.base.keep b o e n hb hx)
    · obtain ⟨sl, e1⟩ := I.base.slot b o e n hb hx
      exact ⟨sl, (hs.2 b (Nat.ne_of_lt (Nat.lt_of_lt_of_le (Heap.lt_size e) (I.ok.cab x c hfn hc)))).trans e1⟩
    · obtain ⟨o', e1⟩ := I.base.there b o e hx
      exact ⟨o', (hs.2 b (Nat.ne_of_lt (Nat.lt_of_lt_of_le (Heap.lt_size e) (I.ok.cab x c hfn hc)))).trans e1⟩
    · by_cases hj : j = i
      · subst hj
        rw [hi] at e1; cases e1
        rw [List.getElem?_set_self hiσ] at e2
        cases e2
        exact ⟨u, r, .inr ⟨.inl hk, c, hc, hc'⟩⟩
      · rw [List.getElem?_set_ne (Ne.symm hj)] at e2
        obtain ⟨u', r', q⟩ := hl j y v' e1 e2 e3
        refine ⟨u', r', ?_⟩
        rcases q with q | ⟨k, c', e, z'⟩
        · exact .inl q
        · refine .inr ⟨k, c', e, z'.sameBut hs ?_⟩
          rintro rfl
          exact hj (nodup_ix hN e1 (I.ok.inj _ _ _ e hc ▸ hi))
    · by_cases hcc : c' = c
      · subst hcc; exact ⟨_, hc'⟩
      · obtain ⟨w2, z2⟩ := I.cell y c' e
        exact ⟨w2, z2.sameBut hs hcc⟩
    · obtain ⟨e, n, ne, nf, d⟩ := I.pin p hp
      refine ⟨(hs.2 p.1 ?_).trans e, n, ne, nf, d⟩
      intro q
      rw [q, hoc] at e
      have q' : oc = p.2 := Option.some.inj e
      exact d w' (by rw [← q']; exact hocd)
theorem store_ok {M : Model} {A : Around} {E : Value → Shared → Prop} {i : Nat} {x : Str} {v : V} {u : Value} {Q : Unit → Shared → Prop} (I : Inv X pins σ H s) (hN : X.N.Nodup) (hi : X.N[i]? = some x) (hx : Loc X.env.scope x) (r : RelV v u)
    (h : ∀ s', Inv X pins (σ.set i (some v)) H s' → Q () s') (hf : X.fn x = true ∨ X.env.scope.names.lookup x = some .local := by first | exact .inl rfl | exact .inr rfl | assumption) : wpAny M A (storeName X.env x u) Q E s :=
  store_ok2 I hN hi hx r (fun s' I' _ => h s' I') hf
/-- behind a call or a block, the state as it is -/
theorem Inv.call' {s' : Shared} {ch : List Addr} (I : Inv X pins σ H s) (ho : s'.os = s.os) (u : Un (frs X.stack) ch H H' s.heap s'.heap) (hok : HOk X.prog X.w H' s'.heap) (hg : AllBare s'.gens)
    (hch : ∀ b ∈ ch, (b ∈ X.ex ∨ X.s₀.heap.objs.size ≤ b) ∧ b ≠ X.env.locals ∧ (∀ x c, X.env.cells.lookup x = some c → c ≠ b) ∧ ∀ p ∈ X.pn ++ pins, p.1 ≠ b) : Inv X pins σ H' s' := by
  obtain ⟨h', g', d', t', o'⟩ := s'
  have e : o' = s.os := ho
  subst e
  exact I.call (g' := g') (t' := t') (d' := d') u hok hg hch
end

/-! ### the judgements -/
/-- an exception: its class, its own dict's address (where it has one), the abstract heap behind it -/
abbrev XK := Value → Option Addr → Hp → Prop
abbrev St := List (Option V)
abbrev VK := V → Hp → Prop
/-- an expression's reading; a test's; an argument list's -/
abbrev TE := St → Hp → VK → Prop
abbrev TT := St → Hp → (Bool → Hp → Prop) → Prop
abbrev TA := St → Hp → (List V → Hp → Prop) → Prop
/-- what is wanted behind a statement -/
structure Ends where
  nx : St → Hp → Prop
  rt : VK
  bk : St → Hp → Prop := fun _ _ => False
  ct : St → Hp → Prop := fun _ _ => False
abbrev TS := Ends → St → Hp → Prop

def EP (X : Cx) (pins : List (Addr × Obj)) (σ : St) (Q : VK) (u : Value) (s' : Shared) : Prop := ∃ v H', Inv X pins σ H' s' ∧ RelV v u ∧ Q v H'
def TP (X : Cx) (pins : List (Addr × Obj)) (σ : St) (Q : Bool → Hp → Prop) (b : Bool) (s' : Shared) : Prop := ∃ H', Inv X pins σ H' s' ∧ Q b H'
def AP (X : Cx) (pins : List (Addr × Obj)) (σ : St) (Q : List V → Hp → Prop) (us : List Value) (s' : Shared) : Prop := ∃ vs H', Inv X pins σ H' s' ∧ Vals vs us ∧ Q vs H'
def SP (X : Cx) (pins : List (Addr × Obj)) (D : Ends) (f : Flow) (s' : Shared) : Prop :=
  match f with
  | .next => ∃ σ' H', Inv X pins σ' H' s' ∧ D.nx σ' H'
  | .brk => ∃ σ' H', Inv X pins σ' H' s' ∧ D.bk σ' H'
  | .cont => ∃ σ' H', Inv X pins σ' H' s' ∧ D.ct σ' H'
  | .ret u => ∃ v σ' H', Inv X pins σ' H' s' ∧ RelV v u ∧ D.rt v H'

def PE (X : Cx) (e : Expr) (t : TE) : Prop :=
  ∀ (pins : List (Addr × Obj)) (s : Shared) (σ : St) (H : Hp) (Q : VK), Inv X pins σ H s → t σ H Q → wpAny (model X.prog X.w) X.A (eval e X.env) (EP X pins σ Q) X.xe s
def PT (X : Cx) (e : Expr) (t : TT) : Prop :=
  ∀ (pins : List (Addr × Obj)) (s : Shared) (σ : St) (H : Hp) (Q : Bool → Hp → Prop), Inv X pins σ H s → t σ H Q → wpAny (model X.prog X.w) X.A (isTrue e X.env (eval e X.env)) (TP X pins σ Q) X.xe s
/-- a test whatever its 'whole' is (and, or) -/
def PW (X : Cx) (e : Expr) (t : TT) : Prop :=
  ∀ (whole : Sem Value) (pins : List (Addr × Obj)) (s : Shared) (σ : St) (H : Hp) (Q : Bool → Hp → Prop), Inv X pins σ H s → t σ H Q → wpAny (model X.prog X.w) X.A (isTrue e X.env whole) (TP X pins σ Q) X.xe s
theorem PW.pt {X : Cx} {e : Expr} {t : TT} (h : PW X e t) : PT X e t := h _
/-- an argument list (no star), from the left -/
def PA (X : Cx) (es : List Expr) (t : TA) : Prop :=
  ∀ (pos : Pos) (pins : List (Addr × Obj)) (s : Shared) (σ : St) (H : Hp) (Q : List V → Hp → Prop), Inv X pins σ H s → t σ H Q → wpAny (model X.prog X.w) X.A (spliced (backTo pos (starEach es X.env))) (AP X pins σ Q) X.xe s
def PS (X : Cx) (st : Stmt) (t : TS) : Prop :=
  ∀ (pins : List (Addr × Obj)) (s : Shared) (σ : St) (H : Hp) (D : Ends), Inv X pins σ H s → t D σ H → wpAny (model X.prog X.w) X.A (exec st X.env) (SP X pins D) X.xe s
def PSs (X : Cx) (st : List Stmt) (t : TS) : Prop :=
  ∀ (pins : List (Addr × Obj)) (s : Shared) (σ : St) (H : Hp) (D : Ends), Inv X pins σ H s → t D σ H → wpAny (model X.prog X.w) X.A (execs st X.env) (SP X pins D) X.xe s
/-- weaken the end -/
theorem thn {α : Type} {t : Sem α} {Q Q' : α → Shared → Prop} {M : Model} {A : Around} {E : Value → Shared → Prop} {s : Shared} (h : wpAny M A t Q E s) (hQ : ∀ a s, Q a s → Q' a s) : wpAny M A t Q' E s := wpAny_mono h hQ fun _ _ x => x
end L2

namespace L2
open PySem PySem.Spec PyProof.Rows
section
variable {X : Cx}

/-- two expressions in a row -/
theorem bin {a b : Expr} {ta tb : TE} (ha : PE X a ta) (hb : PE X b tb) {pins : List (Addr × Obj)} {s : Shared} {σ : St} {H : Hp} {R : V → V → Hp → Prop} (I : Inv X pins σ H s) (h : ta σ H fun x H1 => tb σ H1 fun y H2 => R x y H2)
    {α : Type} {Q : α → Shared → Prop} {f : Value → Value → Sem α}
    (hf : ∀ v u s2 x y H2, Inv X pins σ H2 s2 → RelV x v → RelV y u → R x y H2 → wpAny (model X.prog X.w) X.A (f v u) Q X.xe s2) :
    wpAny (model X.prog X.w) X.A (eval a X.env) (fun v s₁ => wpAny (model X.prog X.w) X.A (eval b X.env) (fun u s₂ => wpAny (model X.prog X.w) X.A (f v u) Q X.xe s₂) X.xe s₁) X.xe s := by
  refine thn (ha pins s σ H _ I h) fun v s1 ⟨x, H1, I1, r1, q1⟩ => ?_
  refine thn (hb pins s1 σ H1 _ I1 q1) fun u s2 ⟨y, H2, I2, r2, q2⟩ => ?_
  exact hf v u s2 x y H2 I2 r1 r2 q2

/-! ### names and constants -/
def tVar (i : Nat) : TE := fun σ H Q => ∃ v, σ[i]? = some (some v) ∧ Q v H
def tC (v : V) : TE := fun _ H Q => Q v H
theorem pe_var {i : Nat} {x : Str} {pos : Pos} (hN : X.N[i]? = some x) (hv : Vis X.env.scope x) (hd : (x == ("__debug__" : Str)) = false := by decide) (hcd : (x == ("__classdict__" : Str)) = false := by decide) : PE X (.Name x pos) (tVar i) := by
  intro pins s σ H Q I h
  obtain ⟨v, e, h⟩ := h
  obtain ⟨m, hn, hl⟩ := I.loc
  obtain ⟨u, r, l⟩ := hl i x v hN e hv
  have fin : EP X pins σ Q u s := ⟨v, H, I, r, h⟩
  rcases l with ⟨hk, hm⟩ | ⟨hk, c, hc, hcell⟩
  · exact wpAny_Name (wpAny_loadName_local I.ok.kind hk hn hm fin) hd
  · rcases hk with hk | hk
    · exact wpAny_Name (wpAny_loadName_cell I.ok.kind hk hc hcell fin) hd
    · exact wpAny_Name (wpAny_loadName_free I.ok.kind hk hc hcell fin hcd) hd
theorem pe_int {i j pos} : PE X (.Constant (.int i) j pos) (tC (.int i)) := fun _ _ _ H _ I h => wpAny_Constant_int ⟨.int i, H, I.tok _, ⟨_, rfl⟩, h⟩
theorem pe_bl {b j pos} : PE X (.Constant (.bool b) j pos) (tC (.bl b)) := fun _ _ _ H _ I h => Constant_bool ⟨.bl b, H, I, rfl, h⟩
theorem pe_non {j pos} : PE X (.Constant .none j pos) (tC .non) := fun _ _ _ H _ I h => Constant_none ⟨.non, H, I, rfl, h⟩
theorem pe_str {x j pos} : PE X (.Constant (.str x) j pos) (tC (.str x)) := fun _ _ _ H _ I h => Calls.Constant_str ⟨.str x, H, I.tok _, ⟨_, rfl⟩, h⟩

/-- a global name of the def -/
def Gl (X : Cx) (x : Str) : Prop := X.env.kindOf x = some .globalImplicit
theorem ld_glob {E : Value → Shared → Prop} {pins : List (Addr × Obj)} {s : Shared} {σ : St} {H : Hp} {x : Str} {u : Value} {pos : Pos} {Q : Value → Shared → Prop} (I : Inv X pins σ H s) (hg : Gl X x) (hm : X.mg x = some u) (h : Q u s)
    (hd : (x == ("__debug__" : Str)) = false := by decide) : wpAny (model X.prog X.w) X.A (eval (.Name x pos) X.env) Q E s :=
  Calls.Name_function_global I.ok.kind hg (Calls.loadGlobal_global (by rw [I.ok.glob]; exact I.mod.glob.keeps I.bk) hm h) hd
theorem ld_blt {E : Value → Shared → Prop} {pins : List (Addr × Obj)} {s : Shared} {σ : St} {H : Hp} {x : Str} {u : Value} {pos : Pos} {Q : Value → Shared → Prop} (I : Inv X pins σ H s) (hg : Gl X x) (hm : X.mg x = none) (hv : bootBuiltins x = some u) (h : Q u s)
    (hn : x ≠ "__name__" := by decide) (hd : (x == ("__debug__" : Str)) = false := by decide) : wpAny (model X.prog X.w) X.A (eval (.Name x pos) X.env) Q E s := by
  obtain ⟨mb, h1, h2⟩ := I.mod.blt
  exact Calls.Name_function_global I.ok.kind hg (Calls.loadGlobal_builtin (by rw [I.ok.glob]; exact I.mod.glob.keeps I.bk) hm (by rw [I.ok.blt]; exact h1.keeps I.bk) ((h2 x hn).trans hv) h) hd
/-- a module's constant, a class, a function, as a value -/
theorem pe_glob {x : Str} {v : V} {u : Value} {pos : Pos} (hg : Gl X x) (hm : X.mg x = some u) (r : RelV v u) (hd : (x == ("__debug__" : Str)) = false := by decide) : PE X (.Name x pos) (tC v) :=
  fun _ _ _ H _ I h => ld_glob I hg hm ⟨v, H, I, r, h⟩ hd
theorem pe_bltn {x : Str} {v : V} {u : Value} {pos : Pos} (hg : Gl X x) (hm : X.mg x = none) (hv : bootBuiltins x = some u) (r : RelV v u) (hn : x ≠ "__name__" := by decide) (hd : (x == ("__debug__" : Str)) = false := by decide) : PE X (.Name x pos) (tC v) :=
  fun _ _ _ H _ I h => ld_blt I hg hm hv ⟨v, H, I, r, h⟩ hn hd

/-! ### arithmetic -/
/-- two ints -/
def t2I (ta tb : TE) (k : Int → Int → Hp → Prop) : St → Hp → Prop := fun σ H => ta σ H fun x H1 => tb σ H1 fun y H2 => ∃ i j, x = .int i ∧ y = .int j ∧ k i j H2
def tAdd (ta tb : TE) : TE := fun σ H Q => t2I ta tb (fun i j H2 => Q (.int (i + j)) H2) σ H
def tSub (ta tb : TE) : TE := fun σ H Q => t2I ta tb (fun i j H2 => Q (.int (i - j)) H2) σ H
/-- the left factor below 2^64 -/
def tMul (ta tb : TE) : TE := fun σ H Q => t2I ta tb (fun i j H2 => (-(2 ^ 64) < i ∧ i < 2 ^ 64) ∧ Q (.int (i * j)) H2) σ H
variable {a b : Expr} {ta tb : TE} {pos : Pos}
theorem pe_add (ha : PE X a ta) (hb : PE X b tb) : PE X (.BinOp a .Add b pos) (tAdd ta tb) := by
  intro pins s σ H Q I h
  refine wpAny_BinOp (bin ha hb I h fun v u s2 x y H2 I2 rx ry q => ?_)
  obtain ⟨i, j, rfl, rfl, q⟩ := q
  obtain ⟨t, rfl⟩ := rx
  obtain ⟨t', rfl⟩ := ry
  exact add_int ⟨.int _, H2, I2.tok _, ⟨_, rfl⟩, q⟩
theorem pe_sub (ha : PE X a ta) (hb : PE X b tb) : PE X (.BinOp a .Sub b pos) (tSub ta tb) := by
  intro pins s σ H Q I h
  refine wpAny_BinOp (bin ha hb I h fun v u s2 x y H2 I2 rx ry q => ?_)
  obtain ⟨i, j, rfl, rfl, q⟩ := q
  obtain ⟨t, rfl⟩ := rx
  obtain ⟨t', rfl⟩ := ry
  exact sub_int ⟨.int _, H2, I2.tok _, ⟨_, rfl⟩, q⟩
theorem pe_mul (ha : PE X a ta) (hb : PE X b tb) : PE X (.BinOp a .Mult b pos) (tMul ta tb) := by
  intro pins s σ H Q I h
  refine wpAny_BinOp (bin ha hb I h fun v u s2 x y H2 I2 rx ry q => ?_)
  obtain ⟨i, j, rfl, rfl, ⟨q1, q2⟩, q⟩ := q
  obtain ⟨t, rfl⟩ := rx
  obtain ⟨t', rfl⟩ := ry
  exact mul_int ⟨.int _, H2, I2.tok _, ⟨_, rfl⟩, q⟩ (.of_left (intBits_le_64 q1 q2))

/-! ### comparisons -/
def PC (X : Cx) (op : CmpOp) (a b : Expr) (t : TE) : Prop :=
  ∀ (pins : List (Addr × Obj)) (s : Shared) (σ : St) (H : Hp) (Q : VK), Inv X pins σ H s → t σ H Q →
    wpAny (model X.prog X.w) X.A (eval a X.env) (fun v s₁ => wpAny (model X.prog X.w) X.A (eval b X.env) (fun u s₂ => wpAny (model X.prog X.w) X.A (compareOp op v u) (EP X pins σ Q) X.xe s₂) X.xe s₁) X.xe s
theorem nobehind (b : Expr) {op : CmpOp} (h : op ≠ .In) (h2 : op ≠ .NotIn) : behindInMarks op b = false := by
  have e1 : (op == CmpOp.In) = false := by cases op <;> first | rfl | exact absurd rfl h
  have e2 : (op == CmpOp.NotIn) = false := by cases op <;> first | rfl | exact absurd rfl h2
  cases b <;> simp [behindInMarks, e1, e2]
def tCmp (p : Int → Int → Bool) (ta tb : TE) : TE := fun σ H Q => t2I ta tb (fun i j H2 => Q (.bl (p i j)) H2) σ H
abbrev tLt : TE → TE → TE := tCmp fun i j => decide (i < j)
abbrev tLe : TE → TE → TE := tCmp fun i j => decide (i ≤ j)
abbrev tGt : TE → TE → TE := tCmp fun i j => decide (j < i)
abbrev tGe : TE → TE → TE := tCmp fun i j => decide (j ≤ i)
abbrev tEqI : TE → TE → TE := tCmp fun i j => decide (i = j)
abbrev tNeI : TE → TE → TE := tCmp fun i j => !decide (i = j)
/-- a comparison of two ints, by its rule -/
theorem pc_int {op : CmpOp} {p : Int → Int → Bool} (ha : PE X a ta) (hb : PE X b tb)
    (rule : ∀ (i j : Int) (t u : Tok) (Q : Value → Shared → Prop) (s : Shared), Q (.bool (p i j)) s → wpAny (model X.prog X.w) X.A (compareOp op (.int i t) (.int j u)) Q X.xe s) : PC X op a b (tCmp p ta tb) := by
  intro pins s σ H Q I h
  refine bin ha hb I h fun v u s2 x y H2 I2 rx ry q => ?_
  obtain ⟨i, j, rfl, rfl, q⟩ := q
  obtain ⟨t, rfl⟩ := rx
  obtain ⟨t', rfl⟩ := ry
  exact rule i j t t' _ s2 ⟨.bl _, H2, I2, rfl, q⟩
theorem pc_lt (ha : PE X a ta) (hb : PE X b tb) : PC X .Lt a b (tLt ta tb) := pc_int ha hb fun _ _ _ _ _ _ h => lt_int h
theorem pc_le (ha : PE X a ta) (hb : PE X b tb) : PC X .LtE a b (tLe ta tb) := pc_int ha hb fun _ _ _ _ _ _ h => le_int h
theorem pc_gt (ha : PE X a ta) (hb : PE X b tb) : PC X .Gt a b (tGt ta tb) := pc_int ha hb fun _ _ _ _ _ _ h => gt_int h
theorem pc_ge (ha : PE X a ta) (hb : PE X b tb) : PC X .GtE a b (tGe ta tb) := pc_int ha hb fun _ _ _ _ _ _ h => ge_int h
theorem pc_eqI (ha : PE X a ta) (hb : PE X b tb) : PC X .Eq a b (tEqI ta tb) := pc_int ha hb fun _ _ _ _ _ _ h => eq_int (by rw [Bool.beq_eq_decide_eq]; exact h)
theorem pc_neI (ha : PE X a ta) (hb : PE X b tb) : PC X .NotEq a b (tNeI ta tb) := pc_int ha hb fun _ _ _ _ _ _ h => ne_int (by rw [bne, Bool.beq_eq_decide_eq]; exact h)
/-- is None -/
def tIsN (ta : TE) : TE := fun σ H Q => ta σ H fun x H1 => Q (.bl (decide (x = .non))) H1
def tNotN (ta : TE) : TE := fun σ H Q => ta σ H fun x H1 => Q (.bl (!decide (x = .non))) H1
theorem RelV.none_iff {x : V} {v : Value} (r : RelV x v) : (v == Value.none) = decide (x = .non) := by
  cases x with
  | non => cases r; rfl
  | bl _ => cases r; rfl
  | int _ => obtain ⟨t, rfl⟩ := r; rfl
  | str _ => obtain ⟨t, rfl⟩ := r; rfl
  | byt _ => obtain ⟨t, rfl⟩ := r; rfl
  | flt _ => obtain ⟨t, rfl⟩ := r; rfl
  | ref _ => cases r; rfl
  | ty _ => cases r; rfl
theorem pc_isN {j pos'} (ha : PE X a ta) : PC X .Is a (.Constant .none j pos') (tIsN ta) := by
  intro pins s σ H Q I h
  refine thn (ha pins s σ H _ I h) fun v s1 ⟨x, H1, I1, r1, q1⟩ => ?_
  exact Constant_none (is_none_gen ⟨.bl _, H1, I1, by rw [r1.none_iff]; rfl, q1⟩)
theorem pc_notN {j pos'} (ha : PE X a ta) : PC X .IsNot a (.Constant .none j pos') (tNotN ta) := by
  intro pins s σ H Q I h
  refine thn (ha pins s σ H _ I h) fun v s1 ⟨x, H1, I1, r1, q1⟩ => ?_
  exact Constant_none (isnot_none_gen ⟨.bl _, H1, I1, by rw [r1.none_iff]; rfl, q1⟩)
/-- a comparison as a value, as a test -/
def tB (t : TE) : TT := fun σ H Q => t σ H fun x H1 => ∃ c, x = .bl c ∧ Q c H1
theorem pe_cmp {op : CmpOp} {t : TE} (h : PC X op a b t) (h1 : behindInMarks op b = false := by first | exact nobehind _ (by decide) (by decide) | rfl) : PE X (.Compare a [op] [b] pos) t := fun pins s σ H Q I hw => wpAny_Compare1 (h pins s σ H Q I hw) h1
theorem pt_cmp {op : CmpOp} {t : TE} (h : PC X op a b t) (h1 : behindInMarks op b = false := by first | exact nobehind _ (by decide) (by decide) | rfl) : PT X (.Compare a [op] [b] pos) (tB t) := by
  intro pins s σ H Q I hw
  refine wpAny_isTrue_Compare1 (thn (h pins s σ H _ I hw) fun v s1 h1 => thn h1 fun u s2 h2 => thn h2 fun c s3 ⟨x, H1, I1, r1, q1⟩ => ?_) h1
  obtain ⟨d, rfl, q⟩ := q1
  cases r1
  exact wpAny_truthy_bool ⟨H1, I1, q⟩
/-- an expression whose value is a bool, as a test -/
theorem pt_val {e : Expr} {t : TE} (h : PE X e t) (he : ∀ whole, isTrue e X.env whole = (do let v ← whole; standAt e.pos; holding [v] (truthy v)) := by intro _; rfl) : PT X e (tB t) := by
  intro pins s σ H Q I hw
  refine isTrue_plain (thn (h pins s σ H _ I hw) fun v s1 ⟨x, H1, I1, r1, q1⟩ => ?_) (he _)
  obtain ⟨d, rfl, q⟩ := q1
  cases r1
  exact wpAny_truthy_bool ⟨H1, I1, q⟩

/-! ### and, or, not -/
variable {tA tB' : TT} {rest : List Expr}
def tAnd (t u : TT) : TT := fun σ H Q => t σ H fun c H1 => if c = true then u σ H1 Q else Q false H1
def tOr (t u : TT) : TT := fun σ H Q => t σ H fun c H1 => if c = true then Q true H1 else u σ H1 Q
def tNot (t : TT) : TT := fun σ H Q => t σ H fun c H1 => Q (!c) H1
theorem pw_and1 (ha : PT X a tA) : PW X (.BoolOp .And [a] pos) tA := by
  intro wh pins s σ H Q I h
  refine isTrue_and (thn (ha pins s σ H Q I h) fun c s1 e => ?_)
  cases c with
  | true => exact isTrue_and_nil e
  | false => exact e
theorem pw_or1 (ha : PT X a tA) : PW X (.BoolOp .Or [a] pos) tA := by
  intro wh pins s σ H Q I h
  refine isTrue_or (thn (ha pins s σ H Q I h) fun c s1 e => ?_)
  cases c with
  | false => exact isTrue_or_nil e
  | true => exact e
theorem pw_and (ha : PT X a tA) (hb : PW X (.BoolOp .And (b :: rest) pos) tB') : PW X (.BoolOp .And (a :: b :: rest) pos) (tAnd tA tB') := by
  intro wh pins s σ H Q I h
  refine isTrue_and (thn (ha pins s σ H _ I h) fun c s1 ⟨H1, I1, q1⟩ => ?_)
  cases c with
  | true => exact hb wh pins s1 σ H1 Q I1 q1
  | false => exact ⟨H1, I1, q1⟩
theorem pw_or (ha : PT X a tA) (hb : PW X (.BoolOp .Or (b :: rest) pos) tB') : PW X (.BoolOp .Or (a :: b :: rest) pos) (tOr tA tB') := by
  intro wh pins s σ H Q I h
  refine isTrue_or (thn (ha pins s σ H _ I h) fun c s1 ⟨H1, I1, q1⟩ => ?_)
  cases c with
  | true => exact ⟨H1, I1, q1⟩
  | false => exact hb wh pins s1 σ H1 Q I1 q1
theorem pt_not (ha : PT X a tA) : PT X (.UnaryOp .Not a pos) (tNot tA) := by
  intro pins s σ H Q I h
  exact isTrue_not (ha pins s σ H (fun c H1 => Q (!c) H1) I h)
/-- .. as values (bools) -/
def tAndV (ta tb : TE) : TE := fun σ H Q => ta σ H fun x H1 => ∃ c, x = .bl c ∧ if c = true then tb σ H1 Q else Q (.bl false) H1
def tOrV (ta tb : TE) : TE := fun σ H Q => ta σ H fun x H1 => ∃ c, x = .bl c ∧ if c = true then Q (.bl true) H1 else tb σ H1 Q
def tNotV (ta : TE) : TE := fun σ H Q => ta σ H fun x H1 => ∃ c, x = .bl c ∧ Q (.bl (!c)) H1
theorem pe_one {op} {t : TE} (h : PE X a t) : PE X (.BoolOp op [a] pos) t := fun pins s σ H Q I hw => BoolOp_one (h pins s σ H Q I hw)
theorem pe_and (ha : PE X a ta) (hb : PE X (.BoolOp .And (b :: rest) pos) tb) : PE X (.BoolOp .And (a :: b :: rest) pos) (tAndV ta tb) := by
  intro pins s σ H Q I h
  refine BoolOp_and (thn (ha pins s σ H _ I h) fun v s1 ⟨x, H1, I1, r1, q1⟩ => ?_)
  obtain ⟨c, rfl, q1⟩ := q1
  cases r1
  refine wpAny_truthy_bool ?_
  cases c with
  | true => exact hb pins s1 σ H1 Q I1 q1
  | false => exact ⟨.bl false, H1, I1, rfl, q1⟩
theorem pe_or (ha : PE X a ta) (hb : PE X (.BoolOp .Or (b :: rest) pos) tb) : PE X (.BoolOp .Or (a :: b :: rest) pos) (tOrV ta tb) := by
  intro pins s σ H Q I h
  refine BoolOp_or (thn (ha pins s σ H _ I h) fun v s1 ⟨x, H1, I1, r1, q1⟩ => ?_)
  obtain ⟨c, rfl, q1⟩ := q1
  cases r1
  refine wpAny_truthy_bool ?_
  cases c with
  | false => exact hb pins s1 σ H1 Q I1 q1
  | true => exact ⟨.bl true, H1, I1, rfl, q1⟩
theorem pe_not (ha : PE X a ta) : PE X (.UnaryOp .Not a pos) (tNotV ta) := by
  intro pins s σ H Q I h
  refine UnaryOp_ (thn (ha pins s σ H _ I h) fun v s1 ⟨x, H1, I1, r1, q1⟩ => ?_)
  obtain ⟨c, rfl, q1⟩ := q1
  cases r1
  exact not_of (wpAny_truthy_bool ⟨.bl (!c), H1, I1, rfl, q1⟩)
/-- a if t else b -/
def tIf (t : TT) (ta tb : TE) : TE := fun σ H Q => t σ H fun c H1 => if c = true then ta σ H1 Q else tb σ H1 Q
theorem pe_ifExp {c : Expr} (hc : PT X c tA) (ha : PE X a ta) (hb : PE X b tb) : PE X (.IfExp c a b pos) (tIf tA ta tb) := by
  intro pins s σ H Q I h
  refine wpAny_IfExp (thn (hc pins s σ H _ I h) fun d s1 ⟨H1, I1, q1⟩ => ?_)
  cases d with
  | true => exact ha pins s1 σ H1 Q I1 q1
  | false => exact hb pins s1 σ H1 Q I1 q1
end
end L2

namespace L2
open PySem PySem.Spec PyProof.Rows

/-! ### a list, a tuple that is read: tracked, frozen, or an object of the module -/
def SqL (K : PySem.W.Frag) (H : Hp) (a : Addr) (xs : List V) : Prop :=
  Rd H a (.lst xs) ∨
    ∃ (o : Obj) (its : Array Value) (n : Nat), K.lookup a = some o ∧ o.cls = .type "list" ∧ o.dict = none ∧ o.data = .seq its n ∧ its.size ≤ sizeLine ∧ Vals xs its.toList
def SqT (K : PySem.W.Frag) (H : Hp) (a : Addr) (xs : List V) : Prop :=
  Rd H a (.tup xs) ∨
    ∃ (o : Obj) (its : Array Value) (n : Nat), K.lookup a = some o ∧ o.cls = .type "tuple" ∧ o.data = .seq its n ∧ its.size ≤ sizeLine ∧ Vals xs its.toList
def absV : Value → Option V
  | .none => some .non
  | .bool b => some (.bl b)
  | .int i _ => some (.int i)
  | .str x _ => some (.str x)
  | .bytes b _ => some (.byt b)
  | .float b _ => some (.flt b)
  | .ref a => some (.ref a)
  | .type n => some (.ty n)
  | _ => none
theorem RelV.abs {x : V} {u : Value} (r : RelV x u) : absV u = some x := by
  cases x with
  | non => cases r; rfl
  | bl _ => cases r; rfl
  | int _ => obtain ⟨t, rfl⟩ := r; rfl
  | str _ => obtain ⟨t, rfl⟩ := r; rfl
  | byt _ => obtain ⟨t, rfl⟩ := r; rfl
  | flt _ => obtain ⟨t, rfl⟩ := r; rfl
  | ref _ => cases r; rfl
  | ty _ => cases r; rfl
theorem RelV.inj {x y : V} {u : Value} (r : RelV x u) (q : RelV y u) : x = y := Option.some.inj (r.abs.symm.trans q.abs)
theorem Vals.inj : ∀ {xs ys : List V} {us : List Value}, Vals xs us → Vals ys us → xs = ys
  | _, _, _, .nil, .nil => rfl
  | _, _, _, .cons r t, .cons r' t' => by rw [r.inj r', Vals.inj t t']
section
variable {X : Cx} {pins : List (Addr × Obj)} {σ : St} {H : Hp} {s : Shared} {a : Addr} {xs ys : List V}
theorem SqL.of {K : PySem.W.Frag} (h : H a = some (.lst xs)) : SqL K H a xs := .inl (.inl h)
theorem SqT.of {K : PySem.W.Frag} (h : H a = some (.tup xs)) : SqT K H a xs := .inl (.inl h)
theorem Inv.list (I : Inv X pins σ H s) (h : SqL X.K H a xs) : ∃ its : List Value, Vals xs its ∧ PlainL s.heap a its.toArray ∧ xs.length ≤ sizeLine := by
  rcases h with h | ⟨o, its, n, hk, hc, hd, hs, hz, r⟩
  · obtain ⟨z, its, n, r, e⟩ := h.ok I.hok
    exact ⟨its, r, ⟨_, n, e, rfl, rfl, rfl⟩, z⟩
  · refine ⟨its.toList, r, ⟨o, n, I.kIn a o hk, hc, hd, by simpa using hs⟩, ?_⟩
    have e := r.length
    simp only [Array.length_toList] at e
    omega
theorem Inv.tuple (I : Inv X pins σ H s) (h : SqT X.K H a xs) : ∃ its : List Value, Vals xs its ∧ IsTup s.heap a its.toArray ∧ xs.length ≤ sizeLine := by
  rcases h with h | ⟨o, its, n, hk, hc, hs, hz, r⟩
  · obtain ⟨z, its, r, p⟩ := h.ok I.hok
    exact ⟨its, r, p.1, z⟩
  · refine ⟨its.toList, r, ⟨o, I.kIn a o hk, hc, n, by simpa using hs⟩, ?_⟩
    have e := r.length
    simp only [Array.length_toList] at e
    omega
theorem Inv.list_inj (I : Inv X pins σ H s) (h : SqL X.K H a xs) (h' : SqL X.K H a ys) : xs = ys := by
  obtain ⟨its, r, ⟨o, n, e, _, _, d⟩, _⟩ := I.list h
  obtain ⟨its', r', ⟨o', n', e', _, _, d'⟩, _⟩ := I.list h'
  rw [e] at e'; cases e'
  rw [d] at d'
  injection d' with d1 _
  have : its = its' := by simpa using congrArg Array.toList d1
  subst this
  exact r.inj r'
theorem Inv.tuple_inj (I : Inv X pins σ H s) (h : SqT X.K H a xs) (h' : SqT X.K H a ys) : xs = ys := by
  obtain ⟨its, r, ⟨o, e, _, n, d⟩, _⟩ := I.tuple h
  obtain ⟨its', r', ⟨o', e', _, n', d'⟩, _⟩ := I.tuple h'
  rw [e] at e'; cases e'
  rw [d] at d'
  injection d' with d1 _
  have : its = its' := by simpa using congrArg Array.toList d1
  subst this
  exact r.inj r'
end

/-! ### another wish about exceptions -/
abbrev Cx.wish (X : Cx) (E : Value → Shared → Prop) : Cx := { X with xe := E }
/-- no exception leaves -/
abbrev Cx.nox (X : Cx) : Cx := X.wish fun _ _ => False
theorem Cx.Ok.wish {X : Cx} (ok : X.Ok) (E : Value → Shared → Prop) : (X.wish E).Ok :=
  ⟨ok.mod, ok.kind, ok.glob, ok.blt, ok.above, ok.inj, ok.has, ok.cab, ok.hd, ok.frames, ok.stk, ok.exf, ok.bs, ok.bsz, ok.noex, ok.exfs, ok.funs, ok.frf⟩
theorem Cx.Ok.unwish {X : Cx} {E : Value → Shared → Prop} (ok : (X.wish E).Ok) : X.Ok :=
  ⟨ok.mod, ok.kind, ok.glob, ok.blt, ok.above, ok.inj, ok.has, ok.cab, ok.hd, ok.frames, ok.stk, ok.exf, ok.bs, ok.bsz, ok.noex, ok.exfs, ok.funs, ok.frf⟩
section
variable {X : Cx} {pins : List (Addr × Obj)} {σ : St} {H : Hp} {s : Shared} {E : Value → Shared → Prop}
theorem Inv.wish (I : Inv X pins σ H s) (E : Value → Shared → Prop) : Inv (X.wish E) pins σ H s := ⟨I.ok.wish E, I.os, I.bare, I.base, I.loc, I.cell, I.free, I.freeC, I.pin, I.hok, I.len⟩
theorem Inv.unwish (I : Inv (X.wish E) pins σ H s) : Inv X pins σ H s := ⟨I.ok.unwish, I.os, I.bare, I.base, I.loc, I.cell, I.free, I.freeC, I.pin, I.hok, I.len⟩
theorem SP.unwish {D : Ends} {f : Flow} {s' : Shared} (h : SP (X.wish E) pins D f s') : SP X pins D f s' := by
  cases f with
  | next => obtain ⟨σ', H', I, q⟩ := h; exact ⟨σ', H', I.unwish, q⟩
  | brk => obtain ⟨σ', H', I, q⟩ := h; exact ⟨σ', H', I.unwish, q⟩
  | cont => obtain ⟨σ', H', I, q⟩ := h; exact ⟨σ', H', I.unwish, q⟩
  | ret u => obtain ⟨v, σ', H', I, r, q⟩ := h; exact ⟨v, σ', H', I.unwish, r, q⟩
theorem PE.nox {e : Expr} {t : TE} (h : PE X.nox e t) : PE X e t := fun pins s σ H Q I hw =>
  wpAny_mono (h pins s σ H Q (I.wish _) hw) (fun _ _ ⟨v, H', I', r, q⟩ => ⟨v, H', I'.unwish, r, q⟩) fun _ _ z => False.elim z
theorem PT.nox {e : Expr} {t : TT} (h : PT X.nox e t) : PT X e t := fun pins s σ H Q I hw =>
  wpAny_mono (h pins s σ H Q (I.wish _) hw) (fun _ _ ⟨H', I', q⟩ => ⟨H', I'.unwish, q⟩) fun _ _ z => False.elim z
theorem PSs.nox {st : List Stmt} {t : TS} (h : PSs X.nox st t) : PSs X st t := fun pins s σ H D I hw =>
  wpAny_mono (h pins s σ H D (I.wish _) hw) (fun _ _ q => q.unwish) fun _ _ z => False.elim z
end

/-! ### blocks and small statements -/
section
variable {X : Cx} {st : Stmt} {rest : List Stmt} {t u : TS} {e : Expr} {te : TE} {pos : Pos}
def tNext : TS := fun D σ H => D.nx σ H
def tSeq (t u : TS) : TS := fun D σ H => t { D with nx := u D } σ H
theorem pss_nil : PSs X [] tNext := fun _ _ σ H _ I h => wpAny_execs_nil ⟨σ, H, I, h⟩
theorem pss_cons (h1 : PS X st t) (h2 : PSs X rest u) : PSs X (st :: rest) (tSeq t u) := by
  intro pins s σ H D I h
  refine wpAny_execs_cons (thn (h1 pins s σ H { D with nx := u D } I h) fun f s1 q => ?_)
  cases f with
  | next =>
    obtain ⟨σ', H', I', q⟩ := q
    exact h2 pins s1 σ' H' D I' q
  | ret v => exact q
  | brk => exact q
  | cont => exact q
theorem pss_one (h1 : PS X st t) : PSs X [st] t := by
  intro pins s σ H D I h
  refine wpAny_execs_cons (thn (h1 pins s σ H D I h) fun f s1 q => ?_)
  cases f with
  | next => exact wpAny_execs_nil q
  | ret v => exact q
  | brk => exact q
  | cont => exact q
def tBreak : TS := fun D σ H => D.bk σ H
def tCont : TS := fun D σ H => D.ct σ H
theorem ps_pass : PS X (.Pass pos) tNext := fun _ _ σ H _ I h => wpAny_Pass ⟨σ, H, I, h⟩
theorem ps_break : PS X (.Break pos) tBreak := fun _ _ σ H _ I h => wpAny_Break ⟨σ, H, I, h⟩
theorem ps_continue : PS X (.Continue pos) tCont := fun _ _ σ H _ I h => wpAny_Continue ⟨σ, H, I, h⟩
/-- in a def's body nothing is shown -/
theorem Inv.quiet {pins : List (Addr × Obj)} {σ : St} {H : Hp} {s : Shared} (I : Inv X pins σ H s) : interactive X.env = false := by simp [interactive, I.ok.kind]
/-- a docstring -/
theorem ps_doc {x j pos pos'} : PS X (.Expr (.Constant (.str x) j pos) pos') tNext := fun _ s σ H _ I h => wpAny_Expr (Calls.Constant_str (show SP X _ _ .next { s with toks := s.toks + 1 } from ⟨σ, H, I.tok _, h⟩)) I.quiet
/-- an expression whose value is dropped -/
def tDrop (te : TE) : TS := fun D σ H => te σ H fun _ H1 => D.nx σ H1
theorem ps_expr (he : PE X e te) (hs : swapsWith e none pos.line X.env = pure false := by rfl) : PS X (.Expr e pos) (tDrop te) := by
  intro pins s σ H D I h
  exact wpAny_Expr_any (thn (he pins s σ H _ I h) fun v s1 ⟨x, H1, I1, r1, q1⟩ => ⟨σ, H1, I1, q1⟩) I.quiet hs
def tRet (te : TE) : TS := fun D σ H => te σ H D.rt
theorem ps_ret (he : PE X e te) : PS X (.Return (some e) pos) (tRet te) := by
  intro pins s σ H D I h
  exact wpAny_Return_some (thn (he pins s σ H _ I h) fun v s1 ⟨x, H1, I1, r1, q1⟩ => ⟨x, σ, H1, I1, r1, q1⟩)
def tRetN : TS := fun D _ H => D.rt .non H
theorem ps_retN : PS X (.Return none pos) tRetN := fun _ _ σ H _ I h => wpAny_Return_none ⟨.non, σ, H, I, rfl, h⟩
def tIfS (c : TT) (t u : TS) : TS := fun D σ H => c σ H fun b H1 => if b = true then t D σ H1 else u D σ H1
theorem ps_if {c : Expr} {a b : List Stmt} {tc : TT} (hc : PT X c tc) (ha : PSs X a t) (hb : PSs X b u) : PS X (.If c a b pos) (tIfS tc t u) := by
  intro pins s σ H D I h
  refine wpAny_If (thn (hc pins s σ H _ I h) fun d s1 ⟨H1, I1, q1⟩ => ?_)
  cases d with
  | true => exact ha pins s1 σ H1 D I1 q1
  | false => exact hb pins s1 σ H1 D I1 q1
/-- code that the proof never comes to -/
def tNever : TS := fun _ _ _ => False
theorem ps_never : PS X st tNever := fun _ _ _ _ _ _ h => h.elim
theorem pss_never {sts : List Stmt} : PSs X sts tNever := fun _ _ _ _ _ _ h => h.elim
end

/-! ### targets -/
abbrev TG := V → St → Hp → (St → Hp → Prop) → Prop
abbrev TGs := List V → St → Hp → (St → Hp → Prop) → Prop
def PG (X : Cx) (target : Expr) (t : TG) : Prop :=
  ∀ (pins : List (Addr × Obj)) (s : Shared) (σ : St) (H : Hp) (v : V) (u : Value) (Q : St → Hp → Prop), Inv X pins σ H s → RelV v u → t v σ H Q →
    wpAny (model X.prog X.w) X.A (assign target X.env u) (fun _ s' => ∃ σ' H', Inv X pins σ' H' s' ∧ Q σ' H') X.xe s
/-- several targets, one after another -/
def PGs (X : Cx) (ts : List Expr) (t : TGs) : Prop :=
  ∀ (pins : List (Addr × Obj)) (s : Shared) (σ : St) (H : Hp) (vs : List V) (us : List Value) (Q : St → Hp → Prop), Inv X pins σ H s → Vals vs us → t vs σ H Q →
    wpAny (model X.prog X.w) X.A (assignInOrder ((assignEach ts X.env).map (·.2)) us) (fun _ s' => ∃ σ' H', Inv X pins σ' H' s' ∧ Q σ' H') X.xe s
/-- o[i] = v, by values -/
abbrev TSet := V → V → V → Hp → (Hp → Prop) → Prop
def PSet (X : Cx) (t : TSet) : Prop :=
  ∀ (pins : List (Addr × Obj)) (s : Shared) (σ : St) (H : Hp) (o i v : V) (ov iv u : Value) (Q : Hp → Prop), Inv X pins σ H s → RelV o ov → RelV i iv → RelV v u → t o i v H Q →
    wpAny (model X.prog X.w) X.A (setItem ov iv u) (fun _ s' => ∃ H', Inv X pins σ H' s' ∧ Q H') X.xe s
/-- a op= b, by values -/
abbrev TIp := V → V → Hp → VK → Prop
def PIp (X : Cx) (op : Operator) (t : TIp) : Prop :=
  ∀ (pins : List (Addr × Obj)) (s : Shared) (σ : St) (H : Hp) (x y : V) (v u : Value) (Q : VK), Inv X pins σ H s → RelV x v → RelV y u → t x y H Q →
    wpAny (model X.prog X.w) X.A (inplaceOp op v u) (EP X pins σ Q) X.xe s
section
variable {X : Cx} {pos : Pos}
def gName (i : Nat) : TG := fun v σ H Q => Q (σ.set i (some v)) H
theorem pg_name {i : Nat} {x : Str} (hN : X.N.Nodup) (hi : X.N[i]? = some x) (hx : Loc X.env.scope x) (hf : X.fn x = true ∨ X.env.scope.names.lookup x = some .local := by first | exact .inl rfl | exact .inr rfl | assumption) : PG X (.Name x pos) (gName i) := by
  intro pins s σ H v u Q I r h
  exact wpAny_assign_Name (store_ok I hN hi hx r (fun s' I' => ⟨_, H, I', h⟩) hf)
def gNil : TGs := fun vs σ H Q => vs = [] ∧ Q σ H
def gCons (t : TG) (u : TGs) : TGs := fun vs σ H Q => ∃ v r, vs = v :: r ∧ t v σ H fun σ' H' => u r σ' H' Q
theorem pgs_nil : PGs X [] gNil := by
  intro pins s σ H vs us Q I r h
  obtain ⟨e, h⟩ := h
  subst e
  cases r
  exact assignInOrder_nil ⟨σ, H, I, h⟩
theorem pgs_cons {e : Expr} {es : List Expr} {t : TG} {u : TGs} (h1 : PG X e t) (h2 : PGs X es u)
    (hs : (assignEach (e :: es) X.env).map (·.2) = assign e X.env :: (assignEach es X.env).map (·.2) := by rfl) : PGs X (e :: es) (gCons t u) := by
  intro pins s σ H vs us Q I r h
  obtain ⟨v, vr, e1, h⟩ := h
  subst e1
  cases r with
  | cons r rr =>
    rw [hs]
    refine assignInOrder_cons (thn (h1 pins s σ H _ _ _ I r h) fun _ s1 ⟨σ1, H1, I1, q1⟩ => ?_)
    exact h2 pins s1 σ1 H1 _ _ Q I1 rr q1
/-- (a, b, ..) = a tuple of that length -/
def gTup (K : PySem.W.Frag) (n : Nat) (t : TGs) : TG := fun v σ H Q => ∃ a xs, v = .ref a ∧ SqT K H a xs ∧ xs.length = n ∧ t xs σ H Q
theorem pg_tup {es : List Expr} {k : Nat} {t : TGs} {n : Nat} (hc : X.calm = true) (h : PGs X es t)
    (hn : (assignEach es X.env).length = n := by rfl) (hst : (assignEach es X.env).findIdx? (·.1) = none := by rfl) : PG X (.Tuple es k pos) (gTup X.K n t) := by
  intro pins s σ H v u Q I r hw
  obtain ⟨a, xs, e1, hq, hl, hw⟩ := hw
  subst e1
  cases r
  obtain ⟨its, rv, ht, hz⟩ := I.tuple hq
  refine assign_Tuple_tuple (I.ok.hd hc) ht (by simp [hn, ← hl, rv.length]) hst fun h' hx => ?_
  have I1 : Inv X pins σ H { s with heap := h' } := I.kept (t' := s.toks) fun b o e => hx b o (Nat.ne_of_lt (Heap.lt_size e)) e
  exact h pins _ σ H xs _ Q I1 (by simpa using rv) hw
/-- o[i] = .. -/
def gSub (to ti : TE) (t : TSet) : TG := fun v σ H Q => to σ H fun o H1 => ti σ H1 fun i H2 => t o i v H2 fun H3 => Q σ H3
theorem pg_sub {o i : Expr} {to ti : TE} {t : TSet} (ho : PE X o to) (hi : PE X i ti) (hs : PSet X t)
    (ha : ∀ v, assign (.Subscript o i pos) X.env v = (do
      let ov ← holding [v] (eval o X.env)
      let iv ← holding [v, ov] (eval i X.env)
      standAt pos
      holding [v, ov, iv] (setItem ov iv v)
      release [v, ov, iv] []) := by intro _; rfl) : PG X (.Subscript o i pos) (gSub to ti t) := by
  intro pins s σ H v u Q I r h
  rw [ha]
  refine wpAny_bind (wpAny_holding (thn (ho pins s σ H _ I h) fun ov s1 ⟨x, H1, I1, r1, q1⟩ => ?_))
  refine wpAny_bind (wpAny_holding (thn (hi pins s1 σ H1 _ I1 q1) fun iv s2 ⟨y, H2, I2, r2, q2⟩ => ?_))
  refine wpAny_bind (wpAny_standAt (wpAny_bind (wpAny_holding (thn (hs pins s2 σ H2 x y v ov iv u _ I2 r1 r2 r q2) fun _ s3 ⟨H3, I3, q3⟩ => ?_))))
  exact wpAny_release ⟨σ, H3, I3, q3⟩
/-- target = value -/
def tAsg (te : TE) (g : TG) : TS := fun D σ H => te σ H fun x H1 => g x σ H1 D.nx
theorem ps_asg {tg e : Expr} {te : TE} {g : TG} (he : PE X e te) (hg : PG X tg g) (hs : swapsWithSole [tg] e pos.line X.env = pure false := by rfl) (hw : swappedStores [tg] e X.env = pure none := by rfl)
    (h1 : (assignEach [tg] X.env).map (·.2) = [assign tg X.env] := by rfl) : PS X (.Assign [tg] e pos) (tAsg te g) := by
  intro pins s σ H D I h
  refine wpAny_Assign_stores (thn (he pins s σ H _ I h) fun v s1 ⟨x, H1, I1, r1, q1⟩ => ?_) hs hw
  rw [h1]
  exact thn (hg pins s1 σ H1 x v _ I1 r1 q1) fun _ s2 q => q
/-- name = value -/
theorem ps_set {i : Nat} {x : Str} {e : Expr} {te : TE} {pos' : Pos} (hN : X.N.Nodup) (hi : X.N[i]? = some x) (hx : Loc X.env.scope x) (he : PE X e te) (hs : swapsWith e (some (.Name x pos')) pos.line X.env = pure false := by rfl) (hf : X.fn x = true ∨ X.env.scope.names.lookup x = some .local := by first | exact .inl rfl | exact .inr rfl | assumption) :
    PS X (.Assign [.Name x pos'] e pos) (tAsg te (gName i)) := by
  intro pins s σ H D I h
  refine wpAny_Assign_Name (thn (he pins s σ H _ I h) fun v s1 ⟨y, H1, I1, r1, q1⟩ => ?_) hs
  exact store_ok I1 hN hi hx r1 (fun s2 I2 => ⟨_, H1, I2, q1⟩) hf
/-- a, b = x, y with plain local names: stored from the right; the pair itself is not tracked (the opening rows as in PyProof/Rows/TupAssign.lean:23) -/
def tPar (i j : Nat) (ta : TA) : TS := fun D σ H => ta σ H fun vs H1 => ∃ v w, vs = [v, w] ∧ D.nx ((σ.set i (some v)).set j (some w)) H1
theorem ps_par {i j : Nat} {x y : Str} {a b : Expr} {ta : TA} {px py pt : Pos} {kt k2 pt2} (hc : X.calm = true) (hN : X.N.Nodup) (hi : X.N[i]? = some x) (hj : X.N[j]? = some y) (hij : i ≠ j)
    (hx : X.env.scope.names.lookup x = some .local) (hy : X.env.scope.names.lookup y = some .local) (ha : PA X [a, b] ta)
    (hw : swappedStores [.Tuple [.Name x px, .Name y py] kt pt] (.Tuple [a, b] k2 pt2) X.env = pure (some [x, y]))
    (hs : swapsWithSole [.Tuple [.Name x px, .Name y py] kt pt] (.Tuple [a, b] k2 pt2) pos.line X.env = pure false := by rfl) :
    PS X (.Assign [.Tuple [.Name x px, .Name y py] kt pt] (.Tuple [a, b] k2 pt2) pos) (tPar i j ta) := by
  intro pins s σ H D I h
  rw [exec_Assign_arm]
  refine wpAny_bind (wpAny_standAt ?_)
  rw [hs]
  refine wpAny_bind (wpAny_pure ?_)
  rw [if_neg (by decide)]
  refine wpAny_bind (Tuple_ (thn (ha _ pins s σ H _ I h) fun us s1 ⟨vs, H1, I1, r1, q1⟩ => ?_))
  obtain ⟨v, w, e1, q1⟩ := q1
  subst e1
  obtain ⟨u1, u2, rfl, rv, rw'⟩ : ∃ u1 u2, us = [u1, u2] ∧ RelV v u1 ∧ RelV w u2 := by
    cases r1 with
    | cons p q =>
      cases q with
      | cons p' q' =>
        cases q'
        exact ⟨_, _, rfl, p, p'⟩
  refine wpAny_newObj_type ?_ (by show 2 ≤ sizeLine; decide)
  have I2 : Inv X pins σ H1 { s1 with heap := s1.heap.push { cls := .type "tuple", data := .seq [u1, u2].toArray } } := I1.kept (t' := s1.toks) fun b o e => Heap.get?_push_of_some _ e
  rw [hw]
  refine wpAny_bind (wpAny_pure ?_)
  show wpAny (model X.prog X.w) X.A (do rule "assign.swapped-stores"; let items ← unpackItems (.ref s1.heap.objs.size) 2 none; assignInOrder [fun v => bindName X.env y v, fun v => bindName X.env x v] items.reverse; pure Flow.next) _ _ _
  refine wpAny_bind (wpAny_rule (wpAny_bind (unpackItems_tuple (items := #[u1, u2]) (I.ok.hd hc) (IsTup.new s1.heap _) fun h' hx' => ?_)))
  have I3 := I2.kept (h' := h') (t' := s1.toks) fun b o e => hx' b o (Nat.ne_of_lt (Heap.lt_size e)) e
  show wpAny _ _ (assignInOrder [fun v => bindName X.env y v, fun v => bindName X.env x v] [u2, u1] >>= fun _ => pure Flow.next) _ _ _
  refine wpAny_bind (assignInOrder_cons (wpAny_bindName (store_ok I3 hN hj (.inl hy) rw' (fun s2 I4 => ?_) (.inr hy))))
  refine assignInOrder_cons (wpAny_bindName (store_ok I4 hN hi (.inl hx) rv (fun s3 I5 => assignInOrder_nil (wpAny_pure ?_)) (.inr hx)))
  rw [List.set_comm _ _ (Ne.symm hij)] at I5
  exact ⟨_, H1, I5, q1⟩
/-- name op= e -/
def tAug (i : Nat) (te : TE) (ti : TIp) : TS := fun D σ H => ∃ x, σ[i]? = some (some x) ∧ te σ H fun y H1 => ti x y H1 fun z H2 => D.nx (σ.set i (some z)) H2
theorem ps_aug {i : Nat} {x : Str} {e : Expr} {te : TE} {op : Operator} {ti : TIp} {pos' : Pos} (hN : X.N.Nodup) (hi : X.N[i]? = some x) (hx : Loc X.env.scope x) (he : PE X e te) (ho : PIp X op ti) (hf : X.fn x = true ∨ X.env.scope.names.lookup x = some .local := by first | exact .inl rfl | exact .inr rfl | assumption) :
    PS X (.AugAssign (.Name x pos') op e pos) (tAug i te ti) := by
  intro pins s σ H D I h
  obtain ⟨v, e1, h⟩ := h
  obtain ⟨m, hn, hl⟩ := I.loc
  have vis : Vis X.env.scope x := by rcases hx with k | k; exact .inl k; exact .inr (.inl k)
  obtain ⟨u, r, l⟩ := hl i x v hi e1 vis
  refine wpAny_AugAssign_Name ?_
  have go : wpAny (model X.prog X.w) X.A (eval e X.env) (fun w s₂ => wpAny (model X.prog X.w) X.A (inplaceOp op u w) (fun r s₃ => wpAny (model X.prog X.w) X.A (storeName X.env x r) (fun _ => SP X pins D .next) X.xe s₃) X.xe s₂) X.xe s := by
    refine thn (he pins s σ H _ I h) fun w s1 ⟨y, H1, I1, r1, q1⟩ => ?_
    refine thn (ho pins s1 σ H1 v y u w _ I1 r r1 q1) fun z s2 ⟨zv, H2, I2, r2, q2⟩ => ?_
    exact store_ok I2 hN hi hx r2 (fun s3 I3 => ⟨_, H2, I3, q2⟩) hf
  rcases l with ⟨hk, hm⟩ | ⟨hk, c, hc, hcell⟩
  · exact wpAny_loadName_local I.ok.kind hk hn hm go
  · rcases hk with hk | hk
    · exact wpAny_loadName_cell I.ok.kind hk hc hcell go
    · rcases hx with k | k
      · have : X.env.scope.names.lookup x = some .free := hk
        rw [k] at this; cases this
      · have : X.env.scope.names.lookup x = some .free := hk
        rw [k] at this; cases this
/-- o[i] op= e -/
def tAugS (to ti te : TE) (tget : V → V → Hp → VK → Prop) (tip : TIp) (tset : TSet) : TS := fun D σ H => to σ H fun o H1 => ti σ H1 fun i H2 => tget o i H2 fun x H3 => te σ H3 fun y H4 => tip x y H4 fun z H5 => tset o i z H5 fun H6 => D.nx σ H6
/-- o[i], by values -/
def PGet (X : Cx) (t : V → V → Hp → VK → Prop) : Prop :=
  ∀ (pins : List (Addr × Obj)) (s : Shared) (σ : St) (H : Hp) (o i : V) (ov iv : Value) (Q : VK), Inv X pins σ H s → RelV o ov → RelV i iv → t o i H Q →
    wpAny (model X.prog X.w) X.A (getItem ov iv) (EP X pins σ Q) X.xe s
theorem ps_augS {o i e : Expr} {to ti te : TE} {tget : V → V → Hp → VK → Prop} {tip : TIp} {tset : TSet} {op : Operator} {tpos : Pos} (ho : PE X o to) (hi : PE X i ti) (hg : PGet X tget) (he : PE X e te) (hp : PIp X op tip) (hs : PSet X tset)
    (ha : ∀ ov iv new, augStore i ov iv new = (do holding [new, ov, iv] (setItem ov iv new); release [new, ov, iv] []; pure .next) := by intros; rfl) : PS X (.AugAssign (.Subscript o i tpos) op e pos) (tAugS to ti te tget tip tset) := by
  intro pins s σ H D I h
  refine wpAny_AugAssign_SubscriptAny (thn (ho pins s σ H _ I h) fun ov s1 ⟨x1, H1, I1, r1, q1⟩ => ?_) ha
  refine thn (hi pins s1 σ H1 _ I1 q1) fun iv s2 ⟨x2, H2, I2, r2, q2⟩ => ?_
  refine thn (hg pins s2 σ H2 x1 x2 ov iv _ I2 r1 r2 q2) fun old s3 ⟨x3, H3, I3, r3, q3⟩ => ?_
  refine thn (he pins s3 σ H3 _ I3 q3) fun v s4 ⟨x4, H4, I4, r4, q4⟩ => ?_
  refine thn (hp pins s4 σ H4 x3 x4 old v _ I4 r3 r4 q4) fun new s5 ⟨x5, H5, I5, r5, q5⟩ => ?_
  exact thn (hs pins s5 σ H5 x1 x2 x5 ov iv new _ I5 r1 r2 r5 q5) fun _ s6 ⟨H6, I6, q6⟩ => ⟨σ, H6, I6, q6⟩
/-- ints -/
def ipI (f : Int → Int → Int) : TIp := fun x y H Q => ∃ i j, x = .int i ∧ y = .int j ∧ Q (.int (f i j)) H
theorem ip_add : PIp X .Add (ipI fun i j => i + j) := by
  intro pins s σ H x y v u Q I r1 r2 h
  obtain ⟨i, j, e1, e2, q⟩ := h
  subst e1; subst e2
  obtain ⟨t, rfl⟩ := r1
  obtain ⟨t', rfl⟩ := r2
  exact iadd_int ⟨.int _, H, I.tok _, ⟨_, rfl⟩, q⟩
theorem ip_sub : PIp X .Sub (ipI fun i j => i - j) := by
  intro pins s σ H x y v u Q I r1 r2 h
  obtain ⟨i, j, e1, e2, q⟩ := h
  subst e1; subst e2
  obtain ⟨t, rfl⟩ := r1
  obtain ⟨t', rfl⟩ := r2
  exact isub_int ⟨.int _, H, I.tok _, ⟨_, rfl⟩, q⟩
end

/-! ### while -/
section
variable {X : Cx} {pos : Pos}
/-- the invariant W with its measure -/
def tWhile (c : TT) (tb : TS) : TS := fun D σ H => ∃ W : Nat → St → Hp → Prop, (∃ m, W m σ H) ∧ ∀ m σ H, W m σ H →
  c σ H fun b H1 => if b = true then ∃ N : St → Hp → Prop, (∀ σ' H', N σ' H' → ∃ m', m' < m ∧ W m' σ' H') ∧ tb { D with nx := N, ct := N, bk := D.nx } σ H1 else D.nx σ H1
theorem ps_while {c : Expr} {body : List Stmt} {tc : TT} {tb : TS} (hp : PassesOwn (model X.prog X.w) X.A X.env X.xe) (hc : PT X c tc) (hb : PSs X body tb) : PS X (.While c body [] pos) (tWhile tc tb) := by
  intro pins s σ H D I h
  obtain ⟨W, ⟨m0, w0⟩, turn⟩ := h
  refine wpAny_While (codeAny_whileLoop (fun n s' => ∃ σ' H', Inv X pins σ' H' s' ∧ W n σ' H') ?_ m0 ⟨σ, H, I, w0⟩)
  rintro n s1 ⟨σ1, H1, I1, w1⟩
  refine wpAny_passesOwn hp (thn (hc pins s1 σ1 H1 _ I1 (turn n σ1 H1 w1)) fun b s2 ⟨H2, I2, q2⟩ => ?_)
  cases b with
  | true =>
    obtain ⟨N, hN, q2⟩ := q2
    rw [if_pos rfl]
    refine wpAny_passesOwn hp (thn (hb pins s2 σ1 H2 _ I2 q2) fun f s3 q3 => ?_)
    cases f with
    | next =>
      obtain ⟨σ3, H3, I3, n3⟩ := q3
      obtain ⟨m', hm, w3⟩ := hN σ3 H3 n3
      exact ⟨m', hm, σ3, H3, I3, w3⟩
    | cont =>
      obtain ⟨σ3, H3, I3, n3⟩ := q3
      obtain ⟨m', hm, w3⟩ := hN σ3 H3 n3
      exact ⟨m', hm, σ3, H3, I3, w3⟩
    | brk => exact q3
    | ret v => exact q3
  | false =>
    rw [if_neg Bool.false_ne_true]
    exact wpAny_execs_nil ⟨σ1, H2, I2, q2⟩
end

/-! ### what a loop or a comprehension walks -/
/-- at turn i: it yields x (the heap may grow), or it stops -/
structure It where
  go : Nat → Hp → Prop
  yld : Nat → Hp → V → Hp → Prop
  stop : Nat → Hp → Prop
/-- the iterator's own objects may turn: they are not the frame's, not pinned, younger than the entry (or a comprehension's own) -/
def FpOk (X : Cx) (pins : List (Addr × Obj)) (H : Hp) (b : Addr) : Prop :=
  H b = none ∧ b ≠ X.env.locals ∧ b ∉ X.fs ∧ (b ∈ X.ex ∨ X.s₀.heap.objs.size ≤ b) ∧ (∀ x c, X.env.cells.lookup x = some c → c ≠ b) ∧ ∀ p ∈ X.pn ++ pins, p.1 ≠ b
theorem Inv.fpOk {X : Cx} {pins : List (Addr × Obj)} {σ : St} {H H' : Hp} {s : Shared} {b : Addr} (I : Inv X pins σ H s) (hb : s.heap.objs.size ≤ b) (hn : H' b = none) : FpOk X pins H' b := by
  refine ⟨hn, Nat.ne_of_gt (Nat.lt_of_lt_of_le I.lt hb), I.nofs hb, .inr (Nat.le_trans I.sz hb), fun x c e z => ?_, fun p hp z => ?_⟩
  · obtain ⟨v, q⟩ := I.cell x c e
    exact absurd (Nat.lt_of_lt_of_le q.lt (by rw [z]; exact hb)) (Nat.lt_irrefl _)
  · exact absurd (Nat.lt_of_lt_of_le (Heap.lt_size (I.pin p hp).1) (by rw [z]; exact hb)) (Nat.lt_irrefl _)
structure Turn (P : Program) (w : World) (K : PySem.W.Frag) (tg : Expr) (J : It) (fp : List Addr) (it : Addr) (tn : Nat → Heap → Prop) : Prop where
  mem : it ∈ fp
  obj : ∀ i h, tn i h → ∀ b ∈ fp, ∃ o, h.get? b = some o ∧ ∀ v, o.data ≠ .cell v
  keep : ∀ i h h', tn i h → (∀ b ∈ fp, ∀ o, h.get? b = some o → h'.get? b = some o) → tn i h'
  item : ∀ (X : Cx), X.prog = P → X.w = w → X.K = K → X.calm = true → ∀ (i : Nat) (pins : List (Addr × Obj)) (s : Shared) (σ : St) (H : Hp) (E : Value → Shared → Prop), Inv X pins σ H s → (∀ b ∈ fp, FpOk X pins H b) → tn i s.heap → J.go i H →
    wpAny (model P w) X.A (pyNext (.ref it)) (fun r s1 => ∃ u, r = some u ∧
      wpAny (model P w) X.A (letOwnedTupleGo tg (.ref it) u) (fun _ s2 => ∃ x H', Inv X pins σ H' s2 ∧ RelV x u ∧ J.yld i H x H' ∧ tn (i + 1) s2.heap ∧ ∀ b ∈ fp, H' b = none) E s1) E s
  done : ∀ (X : Cx), X.prog = P → X.w = w → X.K = K → X.calm = true → ∀ (i : Nat) (pins : List (Addr × Obj)) (s : Shared) (σ : St) (H : Hp) (E : Value → Shared → Prop), Inv X pins σ H s → (∀ b ∈ fp, FpOk X pins H b) → tn i s.heap → J.stop i H →
    wpAny (model P w) X.A (pyNext (.ref it)) (fun r s1 => r = none ∧ Inv X pins σ H s1) E s
  self : ∀ (A : Around) (i : Nat) (s : Shared) (Q : Value → Shared → Prop) (E : Value → Shared → Prop), tn i s.heap → Q (.ref it) s → wpAny (model P w) A (pyIter (.ref it)) Q E s
abbrev TI := St → Hp → (It → Hp → Prop) → Prop
/-- an iterator has come -/
def PIE (X : Cx) (pins : List (Addr × Obj)) (σ : St) (tg : Expr) (R : It → Hp → Prop) (itv : Value) (s2 : Shared) : Prop :=
  ∃ (it : Addr) (fp : List Addr) (tn : Nat → Heap → Prop) (J : It) (H' : Hp), itv = .ref it ∧ Inv X pins σ H' s2 ∧ Turn X.prog X.w X.K tg J fp it tn ∧ tn 0 s2.heap ∧ (∀ b ∈ fp, FpOk X pins H' b) ∧ R J H'
def PI (X : Cx) (tg iter : Expr) (wi : TI) : Prop :=
  ∀ (pins : List (Addr × Obj)) (s : Shared) (σ : St) (H : Hp) (R : It → Hp → Prop), Inv X pins σ H s → wi σ H R →
    wpAny (model X.prog X.w) X.A (eval iter X.env) (fun v s1 => wpAny (model X.prog X.w) X.A (pyIter v) (PIE X pins σ tg R) X.xe s1) X.xe s

/-- the step ahead of the store is nothing for an iterator that keeps no tuple -/
theorem go_of {M : Model} {A : Around} {E : Value → Shared → Prop} {s : Shared} {tg : Expr} {it : Addr} {u : Value} {o : Obj} {n : String} {vs : Array Value} {Q : Unit → Shared → Prop} (ho : s.heap.get? it = some o) (hc : o.cls = .type n) (hd : o.data = .fields vs)
    (hn : ["enumerate", "zip", "dict_itemiterator", "dict_reverseitemiterator", "odict_iterator", "itertools.zip_longest", "itertools.pairwise"].contains n = false) (hQ : Q () s) : wpAny M A (letOwnedTupleGo tg (.ref it) u) Q E s := by
  unfold letOwnedTupleGo
  cases tg <;> first
    | exact wpAny_pure hQ
    | (cases u <;> first
        | exact wpAny_pure hQ
        | (refine wpAny_bind (wpAny_load ho ?_)
           rw [hc, hd]
           show wpAny M A (if (["enumerate", "zip", "dict_itemiterator", "dict_reverseitemiterator", "odict_iterator", "itertools.zip_longest", "itertools.pairwise"].contains n && vs[0]? == some (rawInt _)) = true then _ else _) Q E s
           rw [if_neg (by intro h; rw [hn, Bool.false_and] at h; cases h)]
           exact wpAny_pure hQ))

/-- the list at a, as it stands at each turn (a loop may append to it) -/
def Itl (K : PySem.W.Frag) (a : Addr) : It :=
  ⟨fun i H => ∃ xs x, SqL K H a xs ∧ xs[i]? = some x, fun i H x H' => H' = H ∧ ∀ xs, SqL K H a xs → xs[i]? = some x, fun i H => ∃ xs, SqL K H a xs ∧ xs.length ≤ i⟩
def Itt (K : PySem.W.Frag) (a : Addr) : It :=
  ⟨fun i H => ∃ xs x, SqT K H a xs ∧ xs[i]? = some x, fun i H x H' => H' = H ∧ ∀ xs, SqT K H a xs → xs[i]? = some x, fun i H => ∃ xs, SqT K H a xs ∧ xs.length ≤ i⟩
/-- lo, lo + 1, .. (n of them) -/
def Itr (lo : Int) (n : Nat) : It := ⟨fun i _ => i < n, fun i H x H' => H' = H ∧ x = .int (lo + i), fun i _ => n ≤ i⟩
theorem turn_list {P : Program} {w : World} {K : PySem.W.Frag} {tg : Expr} (a it : Addr) : Turn P w K tg (Itl K a) [it] it (fun i h => h.IsListIter it a i) where
  mem := by simp
  obj := fun i h st b hb => by
    have e : b = it := by simpa using hb
    subst e
    obtain ⟨o, e, c, d⟩ := st
    exact ⟨o, e, fun v z => by rw [d] at z; cases z⟩
  keep := fun i h h' st k => st.at fun o e => k it (by simp) o e
  item := by
    intro X hP hw hK hc i pins s σ H E I hf st hg
    subst hP hw hK
    obtain ⟨xs, x, hq, hx⟩ := hg
    obtain ⟨its, rv, p, hz⟩ := I.list hq
    obtain ⟨u, hu, ru⟩ := rv.get hx
    obtain ⟨f0, f1, f2, f3, f4, f5⟩ := hf it (by simp)
    refine wpAny_pyNext_list_item st p.isList (x := u) (by simpa using hu) fun h' st' sb => ?_
    have I1 : Inv X pins σ H { s with heap := h' } := I.turned (t' := s.toks) (fun b o hb e => (sb.2 b hb).trans e) f0 f1 f3 f4 f5
    obtain ⟨o, e, c, d⟩ := id st'
    exact ⟨u, rfl, go_of (s := { s with heap := h' }) e c d (by decide) ⟨x, H, I1, ru, ⟨rfl, fun ys hy => by rw [I.list_inj hy hq]; exact hx⟩, st', fun b hb => (hf b hb).1⟩⟩
  done := by
    intro X hP hw hK hc i pins s σ H E I hf st hg
    subst hP hw hK
    obtain ⟨xs, hq, hx⟩ := hg
    obtain ⟨its, rv, p, hz⟩ := I.list hq
    obtain ⟨f0, f1, f2, f3, f4, f5⟩ := hf it (by simp)
    have hl := rv.length
    exact wpAny_pyNext_list_end (I.ok.hd hc) st p.isList (by simp; omega) fun h' eb => ⟨rfl, I.turned (t' := s.toks) (fun b o hb e => eb b o hb e) f0 f1 f3 f4 f5⟩
  self := fun _ _ _ _ _ st h => wpAny_pyIter_listiter st h
theorem turn_tuple {P : Program} {w : World} {K : PySem.W.Frag} {tg : Expr} (a it : Addr) : Turn P w K tg (Itt K a) [it] it (fun i h => h.IsTupleIter it a i) where
  mem := by simp
  obj := fun i h st b hb => by
    have e : b = it := by simpa using hb
    subst e
    obtain ⟨o, e, c, d⟩ := st
    exact ⟨o, e, fun v z => by rw [d] at z; cases z⟩
  keep := fun i h h' st k => st.at fun o e => k it (by simp) o e
  item := by
    intro X hP hw hK hc i pins s σ H E I hf st hg
    subst hP hw hK
    obtain ⟨xs, x, hq, hx⟩ := hg
    obtain ⟨its, rv, p, hz⟩ := I.tuple hq
    obtain ⟨u, hu, ru⟩ := rv.get hx
    obtain ⟨f0, f1, f2, f3, f4, f5⟩ := hf it (by simp)
    refine wpAny_pyNext_tuple_item st (show s.heap.IsTuple a its.toArray from p) (x := u) (by simpa using hu) fun h' st' sb => ?_
    have I1 : Inv X pins σ H { s with heap := h' } := I.turned (t' := s.toks) (fun b o hb e => (sb.2 b hb).trans e) f0 f1 f3 f4 f5
    obtain ⟨o, e, c, d⟩ := id st'
    exact ⟨u, rfl, go_of (s := { s with heap := h' }) e c d (by decide) ⟨x, H, I1, ru, ⟨rfl, fun ys hy => by rw [I.tuple_inj hy hq]; exact hx⟩, st', fun b hb => (hf b hb).1⟩⟩
  done := by
    intro X hP hw hK hc i pins s σ H E I hf st hg
    subst hP hw hK
    obtain ⟨xs, hq, hx⟩ := hg
    obtain ⟨its, rv, p, hz⟩ := I.tuple hq
    obtain ⟨f0, f1, f2, f3, f4, f5⟩ := hf it (by simp)
    have hl := rv.length
    exact wpAny_pyNext_tuple_end (I.ok.hd hc) st (show s.heap.IsTuple a its.toArray from p) (by simp; omega) fun h' eb => ⟨rfl, I.turned (t' := s.toks) (fun b o hb e => eb b o hb e) f0 f1 f3 f4 f5⟩
  self := fun _ _ _ _ _ st h => wpAny_pyIter_tupleiter st h
theorem turn_range {P : Program} {w : World} {K : PySem.W.Frag} {tg : Expr} (it : Addr) (lo : Int) (n : Nat) : Turn P w K tg (Itr lo n) [it] it (fun i h => IsRangeIter h it (lo + (i : Nat) * 1) ((n : Int) - (i : Nat)) 1) where
  mem := by simp
  obj := fun i h st b hb => by
    have e : b = it := by simpa using hb
    subst e
    exact ⟨_, st, fun v z => by
      have z' : Data.fields _ = Data.cell v := z
      cases z'⟩
  keep := fun i h h' st k => k it (by simp) _ st
  item := by
    intro X hP hw hK hc i pins s σ H E I hf st hg
    subst hP hw hK
    obtain ⟨f0, f1, f2, f3, f4, f5⟩ := hf it (by simp)
    have W := Walks.range (prog := X.prog) (w := X.w) (I.ok.hd hc) it lo 1 n
    refine W.item i s _ _ hg st fun v h' tk hv st' kk => ?_
    obtain ⟨t, rfl⟩ := hv
    have I1 : Inv X pins σ H { s with heap := h', toks := tk } := I.turned (fun b o hb e => kk b o (by simpa using hb) e) f0 f1 f3 f4 f5
    refine ⟨_, rfl, go_of (s := { s with heap := h', toks := tk }) (n := "range_iterator") st' rfl rfl (by decide) ⟨.int (lo + i), H, I1, ⟨t, ?_⟩, ⟨rfl, rfl⟩, st', fun b hb => (hf b hb).1⟩⟩
    rw [Int.mul_one]
  done := by
    intro X hP hw hK hc i pins s σ H E I hf st hg
    subst hP hw hK
    obtain ⟨f0, f1, f2, f3, f4, f5⟩ := hf it (by simp)
    exact wpAny_pyNext_range_end (I.ok.hd hc) st (by have : n ≤ i := hg; omega) fun h' eb => ⟨rfl, I.turned (t' := s.toks) (fun b o hb e => eb b o hb e) f0 f1 f3 f4 f5⟩
  self := fun _ _ _ _ _ st h => wpAny_pyIter_rangeiter st h
end L2

namespace L2
open PySem PySem.Spec PyProof.Rows
section
variable {X : Cx} {tg : Expr}
def iList (K : PySem.W.Frag) (tl : TE) : TI := fun σ H R => tl σ H fun x H1 => ∃ a, x = .ref a ∧ (∃ xs, SqL K H1 a xs) ∧ R (Itl K a) H1
def iTup (K : PySem.W.Frag) (tl : TE) : TI := fun σ H R => tl σ H fun x H1 => ∃ a, x = .ref a ∧ (∃ xs, SqT K H1 a xs) ∧ R (Itt K a) H1
theorem pi_list {l : Expr} {tl : TE} (hl : PE X l tl) : PI X tg l (iList X.K tl) := by
  intro pins s σ H R I h
  refine thn (hl pins s σ H _ I h) fun v s1 ⟨x, H1, I1, r1, q1⟩ => ?_
  obtain ⟨a, e, ⟨xs, hq⟩, q⟩ := q1
  subst e
  cases r1
  obtain ⟨its, rv, p, hz⟩ := I1.list hq
  refine wpAny_pyIter_list p.isList ?_
  refine ⟨s1.heap.objs.size, [s1.heap.objs.size], _, _, H1, rfl, I1.kept (t' := s1.toks) fun b o e => Heap.get?_push_of_some _ e, turn_list a _, ⟨_, Heap.get?_push_size _ rfl, rfl, rfl⟩, fun b hb => ?_, q⟩
  have e : b = s1.heap.objs.size := by simpa using hb
  subst e
  exact I1.fpOk (Nat.le_refl _) (I1.hok.fresh (Nat.le_refl _))
theorem pi_tup {l : Expr} {tl : TE} (hl : PE X l tl) : PI X tg l (iTup X.K tl) := by
  intro pins s σ H R I h
  refine thn (hl pins s σ H _ I h) fun v s1 ⟨x, H1, I1, r1, q1⟩ => ?_
  obtain ⟨a, e, ⟨xs, hq⟩, q⟩ := q1
  subst e
  cases r1
  obtain ⟨its, rv, p, hz⟩ := I1.tuple hq
  refine wpAny_pyIter_tuple (show s1.heap.IsTuple a its.toArray from p) ?_
  refine ⟨s1.heap.objs.size, [s1.heap.objs.size], _, _, H1, rfl, I1.kept (t' := s1.toks) fun b o e => Heap.get?_push_of_some _ e, turn_tuple a _, ⟨_, Heap.get?_push_size _ rfl, rfl, rfl⟩, fun b hb => ?_, q⟩
  have e : b = s1.heap.objs.size := by simpa using hb
  subst e
  exact I1.fpOk (Nat.le_refl _) (I1.hok.fresh (Nat.le_refl _))
/-- a range object just made, walked -/
theorem range_it {pins : List (Addr × Obj)} {σ : St} {H : Hp} {s : Shared} {R : It → Hp → Prop} {E : Value → Shared → Prop} {lo hi : Int} {t u v : Tok} {tk : Nat} (I : Inv X pins σ H s) (h1 : -(2 ^ 62) ≤ lo) (h2 : lo < 2 ^ 62) (h3 : -(2 ^ 62) ≤ hi) (h4 : hi < 2 ^ 62)
    (q : R (Itr lo (hi - lo).toNat) H) : wpAny (model X.prog X.w) X.A (pyIter (.ref s.heap.objs.size)) (PIE X pins σ tg R) E { s with heap := s.heap.push { cls := .type "range", data := .fields #[.int lo t, .int hi u, .int 1 v] }, toks := tk } := by
  refine wpAny_pyIter_range (IsRange.new ..) (small_one h1 h2 h3 h4) ?_
  have I1 : Inv X pins σ H { s with heap := s.heap.push { cls := .type "range", data := .fields #[.int lo t, .int hi u, .int 1 v] }, toks := tk } := I.kept fun b o e => Heap.get?_push_of_some _ e
  refine ⟨(s.heap.push { cls := .type "range", data := .fields #[.int lo t, .int hi u, .int 1 v] }).objs.size, [(s.heap.push { cls := .type "range", data := .fields #[.int lo t, .int hi u, .int 1 v] }).objs.size], _, _, H, rfl,
    I1.kept (t' := tk) fun b o e => Heap.get?_push_of_some _ e, turn_range _ lo (hi - lo).toNat, ?_, fun b hb => ?_, q⟩
  · have e1 : lo + ((0 : Nat) : Int) * 1 = lo := by simp
    have e2 : (((hi - lo).toNat : Nat) : Int) - ((0 : Nat) : Int) = Builtin.Range.rangeSize lo hi 1 := by rw [rangeSize_one]; split <;> omega
    show IsRangeIter _ _ (lo + ((0 : Nat) : Int) * 1) ((((hi - lo).toNat : Nat) : Int) - ((0 : Nat) : Int)) 1
    rw [e1, e2]
    exact Heap.get?_push_size _ rfl
  · have e : b = (s.heap.push { cls := .type "range", data := .fields #[.int lo t, .int hi u, .int 1 v] }).objs.size := by simpa using hb
    subst e
    exact I1.fpOk (Nat.le_refl _) (I1.hok.fresh (Nat.le_refl _))
def iRng1 (ta : TA) : TI := fun σ H R => ta σ H fun vs H1 => ∃ j : Int, vs = [.int j] ∧ -(2 ^ 62) ≤ j ∧ j < 2 ^ 62 ∧ R (Itr 0 j.toNat) H1
def iRng2 (ta : TA) : TI := fun σ H R => ta σ H fun vs H1 => ∃ i j : Int, vs = [.int i, .int j] ∧ (-(2 ^ 62) ≤ i ∧ i < 2 ^ 62 ∧ -(2 ^ 62) ≤ j ∧ j < 2 ^ 62) ∧ R (Itr i (j - i).toNat) H1
theorem pi_range1 {a : Expr} {ta : TA} {p pos : Pos} (hg : Gl X "range") (hm : X.mg "range" = none) (ha : PA X [a] ta) (hs : starEach [a] X.env = [(false, eval a X.env)] := by rfl) : PI X tg (.Call (.Name "range" p) [a] [] pos) (iRng1 ta) := by
  intro pins s σ H R I h
  refine Call_ (ld_blt I hg hm boot_range (PyProof.Rows.callWith_type1 (thn (ha pos pins s σ H _ I h) fun us s1 ⟨vs, H1, I1, r1, q1⟩ => ?_) hs rfl))
  obtain ⟨j, e, q1, q2, q⟩ := q1
  subst e
  cases r1 with
  | cons r rr =>
    cases rr
    obtain ⟨t, rfl⟩ := r
    exact call_range_1 (range_it I1 (by omega) (by omega) q1 q2 (by simpa using q))
theorem pi_range2 {a b : Expr} {ta : TA} {p pos : Pos} (hg : Gl X "range") (hm : X.mg "range" = none) (ha : PA X [a, b] ta) (hs : starEach [a, b] X.env = [(false, eval a X.env), (false, eval b X.env)] := by rfl) (hs2 : starEach [b] X.env = [(false, eval b X.env)] := by rfl) :
    PI X tg (.Call (.Name "range" p) [a, b] [] pos) (iRng2 ta) := by
  intro pins s σ H R I h
  refine Call_ (ld_blt I hg hm boot_range (PyProof.Rows.callWith_type1 (thn (ha pos pins s σ H _ I h) fun us s1 ⟨vs, H1, I1, r1, q1⟩ => ?_) (by rw [hs, hs2]) (by rw [hs2]; rfl)))
  obtain ⟨i, j, e, ⟨q1, q2, q3, q4⟩, q⟩ := q1
  subst e
  cases r1 with
  | cons r rr =>
    cases rr with
    | cons r' rr =>
      cases rr
      obtain ⟨t, rfl⟩ := r
      obtain ⟨t', rfl⟩ := r'
      exact call_range_2 (range_it I1 q1 q2 q3 q4 q)

/-! ### for -/
/-- W: the invariant by the turn and a measure; N: what the body is to reach -/
def tFor (wi : TI) (g : TG) (tb : TS) : TS := fun D σ H => wi σ H fun J H1 => ∃ W : Nat → Nat → St → Hp → Prop, (∃ m, W 0 m σ H1) ∧ ∀ i m σ H, W i m σ H →
  (J.stop i H ∧ D.nx σ H) ∨ (J.go i H ∧ ∃ N : St → Hp → Prop, (∀ σ' H', N σ' H' → ∃ m', m' < m ∧ W (i + 1) m' σ' H') ∧ ∀ x H', J.yld i H x H' → g x σ H' fun σ2 H2 => tb { D with nx := N, ct := N, bk := D.nx } σ2 H2)
/-- the records at fp as they stand -/
def pinsAt (fp : List Addr) (h : Heap) : List (Addr × Obj) := fp.filterMap fun b => (h.get? b).map fun o => (b, o)
theorem mem_pinsAt {fp : List Addr} {h : Heap} {b : Addr} {o : Obj} (hb : b ∈ fp) (e : h.get? b = some o) : (b, o) ∈ pinsAt fp h := List.mem_filterMap.mpr ⟨b, hb, by rw [e]; rfl⟩
theorem of_pinsAt {fp : List Addr} {h : Heap} {p : Addr × Obj} (hp : p ∈ pinsAt fp h) : p.1 ∈ fp ∧ h.get? p.1 = some p.2 := by
  obtain ⟨b, hb, e⟩ := List.mem_filterMap.mp hp
  cases q : h.get? b with
  | none => rw [q] at e; cases e
  | some o =>
    rw [q] at e
    have e' : (b, o) = p := Option.some.inj e
    subst e'
    exact ⟨hb, q⟩
theorem Inv.pinned {pins : List (Addr × Obj)} {σ : St} {H : Hp} {s : Shared} {fp : List Addr} (I : Inv X pins σ H s) (hf : ∀ b ∈ fp, FpOk X pins H b) (ho : ∀ b ∈ fp, ∃ o, s.heap.get? b = some o ∧ ∀ v, o.data ≠ .cell v) : Inv X (pins ++ pinsAt fp s.heap) σ H s :=
  I.pins_of fun p hp => (List.mem_append.mp hp).elim (fun z => I.pin p (List.mem_append_right _ z)) fun z => by
    obtain ⟨hb, e⟩ := of_pinsAt z
    obtain ⟨f0, f1, f2, _⟩ := hf p.1 hb
    obtain ⟨o, e', d⟩ := ho p.1 hb
    rw [e] at e'; cases e'
    exact ⟨e, f0, f1, f2, d⟩
theorem Inv.unpinned {pins pl : List (Addr × Obj)} {σ : St} {H : Hp} {s : Shared} (I : Inv X (pins ++ pl) σ H s) : Inv X pins σ H s := I.pins_of fun p hp => I.pin p (List.mem_append_right _ (List.mem_append_left _ hp))
theorem ps_for {iter : Expr} {body : List Stmt} {wi : TI} {g : TG} {tb : TS} {pos : Pos} (hp : PassesOwn (model X.prog X.w) X.A X.env X.xe) (hc : X.calm = true) (hi : PI X tg iter wi) (hg : PG X tg g) (hb : PSs X body tb)
    (hs : ∀ x, foldedSetIterable iter X.env x = pure x := by intro _; rfl) : PS X (.For tg iter body [] pos) (tFor wi g tb) := by
  intro pins s σ H D I h
  refine wpAny_For (thn (hi pins s σ H _ I h) fun v s1 h1 => thn h1 fun itv s2 h2 => ?_) hs
  obtain ⟨it, fp, tn, J, H2, e, I2, T, st2, f2, W, ⟨m0, w0⟩, turn⟩ := h2
  subst e
  -- what stays true of the iterator's objects through the loop
  have stat : ∀ {H' : Hp}, (∀ b ∈ fp, H' b = none) → ∀ b ∈ fp, FpOk X pins H' b := fun hn b hb => ⟨hn b hb, (f2 b hb).2⟩
  refine codeAny_forLoop_any (fun n s' => ∃ i σ' H', Inv X pins σ' H' s' ∧ tn i s'.heap ∧ (∀ b ∈ fp, H' b = none) ∧ W i n σ' H') ?_ m0 ⟨0, σ, H2, I2, st2, fun b hb => (f2 b hb).1, w0⟩
  rintro n s3 ⟨i, σ3, H3, I3, st3, fr3, w3⟩
  rcases turn i n σ3 H3 w3 with ⟨stop, qn⟩ | ⟨go, N, hN, step⟩
  · refine wpAny_passesOwn hp (thn (T.done X rfl rfl rfl hc i pins s3 σ3 H3 X.xe I3 (stat fr3) st3 stop) fun r s4 ⟨hr, I4⟩ => ?_)
    subst hr
    exact wpAny_execs_nil ⟨σ3, H3, I4, qn⟩
  · refine wpAny_passesOwn hp (thn (T.item X rfl rfl rfl hc i pins s3 σ3 H3 X.xe I3 (stat fr3) st3 go) fun r s4 ⟨u, hr, h4⟩ => ?_)
    subst hr
    refine wpAny_passesOwn hp (thn h4 fun _ s5 ⟨x, H5, I5, r5, y5, st5, fr5⟩ => ?_)
    have I5' := I5.pinned (stat fr5) (T.obj _ _ st5)
    refine wpAny_passesOwn hp (thn (hg _ s5 σ3 H5 x u _ I5' r5 (step x H5 y5)) fun _ s6 ⟨σ6, H6, I6, q6⟩ => ?_)
    refine wpAny_passesOwn hp (thn (hb _ s6 σ6 H6 _ I6 q6) fun f s7 q7 => ?_)
    have again : ∀ {σ7 : St} {H7 : Hp}, Inv X (pins ++ pinsAt fp s5.heap) σ7 H7 s7 → N σ7 H7 → ∃ m, m < n ∧ ∃ i σ' H', Inv X pins σ' H' s7 ∧ tn i s7.heap ∧ (∀ b ∈ fp, H' b = none) ∧ W i m σ' H' := fun {σ7 H7} I7 n7 => by
      obtain ⟨m', hm, w7⟩ := hN σ7 H7 n7
      refine ⟨m', hm, i + 1, σ7, H7, I7.unpinned, T.keep _ _ _ st5 fun b hb o e => (I7.pin (b, o) (List.mem_append_right _ (List.mem_append_right _ (mem_pinsAt hb e)))).1, fun b hb => ?_, w7⟩
      obtain ⟨o, e, d⟩ := T.obj _ _ st5 b hb
      exact (I7.pin (b, o) (List.mem_append_right _ (List.mem_append_right _ (mem_pinsAt hb e)))).2.1
    cases f with
    | next => obtain ⟨σ7, H7, I7, n7⟩ := q7; exact again I7 n7
    | cont => obtain ⟨σ7, H7, I7, n7⟩ := q7; exact again I7 n7
    | brk => obtain ⟨σ7, H7, I7, q7⟩ := q7; exact ⟨σ7, H7, I7.unpinned, q7⟩
    | ret v => obtain ⟨x7, σ7, H7, I7, r7, q7⟩ := q7; exact ⟨x7, σ7, H7, I7.unpinned, r7, q7⟩
end

/-! ### the forms one uses -/
/-- over a list that the body leaves as it is -/
theorem for_list {K : PySem.W.Frag} {a : Addr} {xs : List V} {g : TG} {tb : TS} {D : Ends} {σ : St} {H : Hp} (Pv : Nat → St → Hp → Prop) (h0 : Pv 0 σ H) (hl : ∀ i σ H, i ≤ xs.length → Pv i σ H → SqL K H a xs)
    (hs : ∀ i x σ H, xs[i]? = some x → Pv i σ H → g x σ H fun σ2 H2 => tb { D with nx := Pv (i + 1), ct := Pv (i + 1), bk := D.nx } σ2 H2) (hd : ∀ σ H, Pv xs.length σ H → D.nx σ H) :
    ∃ W : Nat → Nat → St → Hp → Prop, (∃ m, W 0 m σ H) ∧ ∀ i m σ H, W i m σ H →
      ((Itl K a).stop i H ∧ D.nx σ H) ∨ ((Itl K a).go i H ∧ ∃ N : St → Hp → Prop, (∀ σ' H', N σ' H' → ∃ m', m' < m ∧ W (i + 1) m' σ' H') ∧ ∀ x H', (Itl K a).yld i H x H' → g x σ H' fun σ2 H2 => tb { D with nx := N, ct := N, bk := D.nx } σ2 H2) := by
  refine ⟨fun i m σ H => m = xs.length - i ∧ i ≤ xs.length ∧ Pv i σ H, ⟨xs.length, by simp, Nat.zero_le _, h0⟩, ?_⟩
  rintro i m σ H ⟨rfl, hi, p⟩
  have q := hl i σ H hi p
  by_cases hlt : i < xs.length
  · refine .inr ⟨⟨xs, xs[i], q, by simp [hlt]⟩, Pv (i + 1), fun σ' H' p' => ⟨xs.length - (i + 1), by omega, rfl, hlt, p'⟩, fun x H' y => ?_⟩
    obtain ⟨e, y⟩ := y
    subst e
    exact hs i x σ _ (y xs q) p
  · have e : i = xs.length := by omega
    subst e
    exact .inl ⟨⟨xs, q, Nat.le_refl _⟩, hd σ H p⟩
theorem for_tup {K : PySem.W.Frag} {a : Addr} {xs : List V} {g : TG} {tb : TS} {D : Ends} {σ : St} {H : Hp} (Pv : Nat → St → Hp → Prop) (h0 : Pv 0 σ H) (hl : ∀ i σ H, i ≤ xs.length → Pv i σ H → SqT K H a xs)
    (hs : ∀ i x σ H, xs[i]? = some x → Pv i σ H → g x σ H fun σ2 H2 => tb { D with nx := Pv (i + 1), ct := Pv (i + 1), bk := D.nx } σ2 H2) (hd : ∀ σ H, Pv xs.length σ H → D.nx σ H) :
    ∃ W : Nat → Nat → St → Hp → Prop, (∃ m, W 0 m σ H) ∧ ∀ i m σ H, W i m σ H →
      ((Itt K a).stop i H ∧ D.nx σ H) ∨ ((Itt K a).go i H ∧ ∃ N : St → Hp → Prop, (∀ σ' H', N σ' H' → ∃ m', m' < m ∧ W (i + 1) m' σ' H') ∧ ∀ x H', (Itt K a).yld i H x H' → g x σ H' fun σ2 H2 => tb { D with nx := N, ct := N, bk := D.nx } σ2 H2) := by
  refine ⟨fun i m σ H => m = xs.length - i ∧ i ≤ xs.length ∧ Pv i σ H, ⟨xs.length, by simp, Nat.zero_le _, h0⟩, ?_⟩
  rintro i m σ H ⟨rfl, hi, p⟩
  have q := hl i σ H hi p
  by_cases hlt : i < xs.length
  · refine .inr ⟨⟨xs, xs[i], q, by simp [hlt]⟩, Pv (i + 1), fun σ' H' p' => ⟨xs.length - (i + 1), by omega, rfl, hlt, p'⟩, fun x H' y => ?_⟩
    obtain ⟨e, y⟩ := y
    subst e
    exact hs i x σ _ (y xs q) p
  · have e : i = xs.length := by omega
    subst e
    exact .inl ⟨⟨xs, q, Nat.le_refl _⟩, hd σ H p⟩
theorem for_range {lo : Int} {n : Nat} {g : TG} {tb : TS} {D : Ends} {σ : St} {H : Hp} (Pv : Nat → St → Hp → Prop) (h0 : Pv 0 σ H)
    (hs : ∀ i σ H, i < n → Pv i σ H → g (.int (lo + i)) σ H fun σ2 H2 => tb { D with nx := Pv (i + 1), ct := Pv (i + 1), bk := D.nx } σ2 H2) (hd : ∀ σ H, Pv n σ H → D.nx σ H) :
    ∃ W : Nat → Nat → St → Hp → Prop, (∃ m, W 0 m σ H) ∧ ∀ i m σ H, W i m σ H →
      ((Itr lo n).stop i H ∧ D.nx σ H) ∨ ((Itr lo n).go i H ∧ ∃ N : St → Hp → Prop, (∀ σ' H', N σ' H' → ∃ m', m' < m ∧ W (i + 1) m' σ' H') ∧ ∀ x H', (Itr lo n).yld i H x H' → g x σ H' fun σ2 H2 => tb { D with nx := N, ct := N, bk := D.nx } σ2 H2) := by
  refine ⟨fun i m σ H => m = n - i ∧ i ≤ n ∧ Pv i σ H, ⟨n, by simp, Nat.zero_le _, h0⟩, ?_⟩
  rintro i m σ H ⟨rfl, hi, p⟩
  by_cases hlt : i < n
  · refine .inr ⟨hlt, Pv (i + 1), fun σ' H' p' => ⟨n - (i + 1), by omega, rfl, hlt, p'⟩, fun x H' y => ?_⟩
    obtain ⟨e, y⟩ := y
    subst e y
    exact hs i σ _ hlt p
  · have e : i = n := by omega
    subst e
    exact .inl ⟨Nat.le_refl _, hd σ H p⟩
/-- while, by a word and a measure of the state -/
theorem while_by {c : TT} {tb : TS} {D : Ends} {σ : St} {H : Hp} (Pv : St → Hp → Prop) (μ : St → Hp → Nat) (h0 : Pv σ H)
    (hs : ∀ σ H, Pv σ H → c σ H fun b H1 => if b = true then tb { D with nx := fun σ' H' => Pv σ' H' ∧ μ σ' H' < μ σ H, ct := fun σ' H' => Pv σ' H' ∧ μ σ' H' < μ σ H, bk := D.nx } σ H1 else D.nx σ H1)
    (mono : ∀ σ H Q Q', (∀ b H1, Q b H1 → Q' b H1) → c σ H Q → c σ H Q') : tWhile c tb D σ H := by
  refine ⟨fun m σ H => m = μ σ H ∧ Pv σ H, ⟨_, rfl, h0⟩, ?_⟩
  rintro m σ H ⟨rfl, p⟩
  refine mono σ H _ _ (fun b H1 q => ?_) (hs σ H p)
  cases b with
  | true => exact ⟨_, fun σ' H' ⟨p', l⟩ => ⟨_, l, rfl, p'⟩, q⟩
  | false => exact q
end L2

namespace L2
open PySem PySem.Spec PyProof.Rows

abbrev R2 := V → V → Hp → VK → Prop
/-- a two-place operation on values: f is binaryOp op, inplaceOp op or compareOp op -/
def OpR (X : Cx) (f : Value → Value → Sem Value) (r : R2) : Prop :=
  ∀ (pins : List (Addr × Obj)) (s : Shared) (σ : St) (H : Hp) (x y : V) (v u : Value) (Q : VK), Inv X pins σ H s → RelV x v → RelV y u → r x y H Q →
    wpAny (model X.prog X.w) X.A (f v u) (EP X pins σ Q) X.xe s
/-- a one-place operation -/
def UnR (X : Cx) (f : Value → Sem Value) (r : V → Hp → VK → Prop) : Prop :=
  ∀ (pins : List (Addr × Obj)) (s : Shared) (σ : St) (H : Hp) (x : V) (v : Value) (Q : VK), Inv X pins σ H s → RelV x v → r x H Q →
    wpAny (model X.prog X.w) X.A (f v) (EP X pins σ Q) X.xe s
/-- a call of a value that is known (a builtin, a type) with values -/
def CallR (X : Cx) (f : Value) (r : List V → Hp → VK → Prop) : Prop :=
  ∀ (pins : List (Addr × Obj)) (s : Shared) (σ : St) (H : Hp) (xs : List V) (us : List Value) (Q : VK), Inv X pins σ H s → Vals xs us → r xs H Q →
    wpAny (model X.prog X.w) X.A (call f us) (EP X pins σ Q) X.xe s
/-- a value's truth -/
def TruR (X : Cx) (r : V → Hp → (Bool → Hp → Prop) → Prop) : Prop :=
  ∀ (pins : List (Addr × Obj)) (s : Shared) (σ : St) (H : Hp) (x : V) (v : Value) (Q : Bool → Hp → Prop), Inv X pins σ H s → RelV x v → r x H Q →
    wpAny (model X.prog X.w) X.A (truthy v) (TP X pins σ Q) X.xe s

def tOp (r : R2) (ta tb : TE) : TE := fun σ H Q => ta σ H fun x H1 => tb σ H1 fun y H2 => r x y H2 Q
def tUn (r : V → Hp → VK → Prop) (ta : TE) : TE := fun σ H Q => ta σ H fun x H1 => r x H1 Q
/-- ints in, under C, and a value out -/
def rI (C : Int → Int → Prop) (g : Int → Int → V) : R2 := fun x y H Q => ∃ i j, x = .int i ∧ y = .int j ∧ C i j ∧ Q (g i j) H
def rI0 (g : Int → Int → V) : R2 := fun x y H Q => ∃ i j, x = .int i ∧ y = .int j ∧ Q (g i j) H
def rU (g : Int → V) : V → Hp → VK → Prop := fun x H Q => ∃ i, x = .int i ∧ Q (g i) H

section
variable {X : Cx} {a b c : Expr} {ta tb tc : TE} {pos : Pos}

theorem binT (ha : PE X a ta) (hb : PE X b tb) {pins : List (Addr × Obj)} {s : Shared} {σ : St} {H : Hp} {R : V → V → Hp → Prop} (I : Inv X pins σ H s)
    (h : ta σ H fun x H1 => tb σ H1 fun y H2 => R x y H2) {Q : Value → Shared → Prop} {f : Value → Value → Sem Value}
    (hf : ∀ v u s2 x y H2, Inv X pins σ H2 s2 → RelV x v → RelV y u → R x y H2 → wpAny (model X.prog X.w) X.A (f v u) Q X.xe s2) :
    wpAny (model X.prog X.w) X.A (eval a X.env) (fun v s₁ => wpAny (model X.prog X.w) X.A (eval b X.env) (fun u s₂ => wpAny (model X.prog X.w) X.A (f v u) Q X.xe s₂) X.xe s₁) X.xe s := by
  refine thn (ha pins s σ H _ I h) fun v s1 ⟨x, H1, I1, r1, q1⟩ => ?_
  refine thn (hb pins s1 σ H1 _ I1 q1) fun u s2 ⟨y, H2, I2, r2, q2⟩ => ?_
  exact hf v u s2 x y H2 I2 r1 r2 q2

theorem pe_op {op : Operator} {r : R2} (ho : OpR X (binaryOp op) r) (ha : PE X a ta) (hb : PE X b tb) : PE X (.BinOp a op b pos) (tOp r ta tb) := by
  intro pins s σ H Q I h
  exact wpAny_BinOp (binT ha hb I h fun v u s2 x y H2 I2 rx ry q => ho pins s2 σ H2 x y v u Q I2 rx ry q)
theorem pe_un {op : UnaryOp} {r : V → Hp → VK → Prop} (ho : UnR X (unaryOp op) r) (ha : PE X a ta) : PE X (.UnaryOp op a pos) (tUn r ta) := by
  intro pins s σ H Q I h
  exact UnaryOp_ (thn (ha pins s σ H _ I h) fun v s1 ⟨x, H1, I1, r1, q1⟩ => ho pins s1 σ H1 x v Q I1 r1 q1)
/-- a op= e at a name: the name's slot i -/
theorem augR {op : Operator} {r : R2} (ho : OpR X (inplaceOp op) r) {pins : List (Addr × Obj)} {s : Shared} {σ : St} {H : Hp} {x y : V} {v u : Value} {Q : VK} (I : Inv X pins σ H s)
    (rx : RelV x v) (ry : RelV y u) (q : r x y H Q) : wpAny (model X.prog X.w) X.A (inplaceOp op v u) (EP X pins σ Q) X.xe s := ho pins s σ H x y v u Q I rx ry q

/-! ### ints -/
theorem opI {f : Value → Value → Sem Value} {C : Int → Int → Prop} {g : Int → Int → Int}
    (rule : ∀ (i j : Int) (t u : Tok) (s : Shared) (Q : Value → Shared → Prop) (E : Value → Shared → Prop), C i j → Q (.int (g i j) s.toks) { s with toks := s.toks + 1 } → wpAny (model X.prog X.w) X.A (f (.int i t) (.int j u)) Q E s) :
    OpR X f (rI C fun i j => .int (g i j)) := by
  intro pins s σ H x y v u Q I rx ry h
  obtain ⟨i, j, rfl, rfl, hc, q⟩ := h
  obtain ⟨t, rfl⟩ := rx
  obtain ⟨t', rfl⟩ := ry
  exact rule i j t t' s _ _ hc ⟨.int (g i j), H, I.tok _, ⟨_, rfl⟩, q⟩
theorem opI0 {f : Value → Value → Sem Value} {g : Int → Int → Int}
    (rule : ∀ (i j : Int) (t u : Tok) (s : Shared) (Q : Value → Shared → Prop) (E : Value → Shared → Prop), Q (.int (g i j) s.toks) { s with toks := s.toks + 1 } → wpAny (model X.prog X.w) X.A (f (.int i t) (.int j u)) Q E s) :
    OpR X f (rI0 fun i j => .int (g i j)) := by
  intro pins s σ H x y v u Q I rx ry h
  obtain ⟨i, j, rfl, rfl, q⟩ := h
  obtain ⟨t, rfl⟩ := rx
  obtain ⟨t', rfl⟩ := ry
  exact rule i j t t' s _ _ ⟨.int (g i j), H, I.tok _, ⟨_, rfl⟩, q⟩
theorem opB0 {f : Value → Value → Sem Value} {g : Int → Int → Bool}
    (rule : ∀ (i j : Int) (t u : Tok) (s : Shared) (Q : Value → Shared → Prop) (E : Value → Shared → Prop), Q (.bool (g i j)) s → wpAny (model X.prog X.w) X.A (f (.int i t) (.int j u)) Q E s) :
    OpR X f (rI0 fun i j => .bl (g i j)) := by
  intro pins s σ H x y v u Q I rx ry h
  obtain ⟨i, j, rfl, rfl, q⟩ := h
  obtain ⟨t, rfl⟩ := rx
  obtain ⟨t', rfl⟩ := ry
  exact rule i j t t' s _ _ ⟨.bl (g i j), H, I, rfl, q⟩

def CDiv (i j : Int) : Prop := 0 < j ∧ j < 1073741824
def CDivN (i j : Int) : Prop := j ≠ 0 ∧ j.natAbs < 1073741824
def CPow (i j : Int) : Prop := 0 ≤ j ∧ j ≤ 1000000 ∧ i.natAbs < 2 ^ 64
def CMul (i j : Int) : Prop := (-(2 ^ 64) < i ∧ i < 2 ^ 64) ∨ (-(2 ^ 64) < j ∧ j < 2 ^ 64)
theorem CMul.ok {i j : Int} (h : CMul i j) : IntMulOk i j := by
  rcases h with ⟨h1, h2⟩ | ⟨h1, h2⟩
  · exact .of_left (intBits_le_64 h1 h2)
  · exact .of_right (intBits_le_64 h1 h2)
theorem two_pow_nn (k : Nat) : (0 : Int) ≤ 2 ^ k := by
  rw [two_pow_cast]
  exact Int.natCast_nonneg _

theorem op_add : OpR X (binaryOp .Add) (rI0 fun i j => .int (i + j)) := opI0 fun _ _ _ _ _ _ _ q => add_int q
theorem op_sub : OpR X (binaryOp .Sub) (rI0 fun i j => .int (i - j)) := opI0 fun _ _ _ _ _ _ _ q => sub_int q
theorem op_mul : OpR X (binaryOp .Mult) (rI CMul fun i j => .int (i * j)) := opI fun _ _ _ _ _ _ _ hc q => mul_int q hc.ok
/-- // by a positive divisor -/
theorem op_fdiv : OpR X (binaryOp .FloorDiv) (rI CDiv fun i j => .int (i / j)) := opI fun i j _ _ _ _ _ hc q => by
  have h1 : (0 : Int) < j := hc.1
  have h2 : j < 1073741824 := hc.2
  exact floordiv_int (by omega) (by rw [Int.fdiv_eq_ediv_of_nonneg i (by omega)]; exact q) (.inl (PyProof.noPylong_small (by omega)))
theorem op_fdivN : OpR X (binaryOp .FloorDiv) (rI CDivN fun i j => .int (i.fdiv j)) := opI fun _ _ _ _ _ _ _ hc q => floordiv_int hc.1 q (.inl (PyProof.noPylong_small hc.2))
/-- % by a positive divisor of any size -/
theorem op_mod : OpR X (binaryOp .Mod) (rI (fun _ j => 0 < j) fun i j => .int (i % j)) := opI fun i j _ _ _ _ _ hc q => by
  have h1 : (0 : Int) < j := hc
  exact mod_int' (by omega) (by rw [Int.fmod_eq_emod_of_nonneg i (by omega)]; exact q)
theorem op_modN : OpR X (binaryOp .Mod) (rI (fun _ j => j ≠ 0) fun i j => .int (i.fmod j)) := opI fun _ _ _ _ _ _ _ hc q => mod_int' hc q
theorem op_pow : OpR X (binaryOp .Pow) (rI CPow fun i j => .int (i ^ j.toNat)) := opI fun _ _ _ _ _ _ _ hc q => pow_int_small hc.1 hc.2.1 hc.2.2 q
theorem op_shl : OpR X (binaryOp .LShift) (rI CPow fun i j => .int (i * 2 ^ j.toNat)) := opI fun _ _ _ _ _ _ _ hc q => lshift_int_small hc.1 hc.2.1 hc.2.2 q
theorem op_shr : OpR X (binaryOp .RShift) (rI (fun _ j => 0 ≤ j) fun i j => .int (i / 2 ^ j.toNat)) := opI fun i j _ _ _ _ _ hc q =>
  rshift_int hc (by rw [Int.fdiv_eq_ediv_of_nonneg i (two_pow_nn _)]; exact q)
theorem op_and : OpR X (binaryOp .BitAnd) (rI0 fun i j => .int (Builtin.bitAnd i j)) := opI0 fun _ _ _ _ _ _ _ q => and_int q
theorem op_or : OpR X (binaryOp .BitOr) (rI0 fun i j => .int (Builtin.bitOr i j)) := opI0 fun _ _ _ _ _ _ _ q => or_int q
theorem op_xor : OpR X (binaryOp .BitXor) (rI0 fun i j => .int (Builtin.bitXor i j)) := opI0 fun _ _ _ _ _ _ _ q => xor_int q

theorem iop_add : OpR X (inplaceOp .Add) (rI0 fun i j => .int (i + j)) := opI0 fun _ _ _ _ _ _ _ q => iadd_int q
theorem iop_sub : OpR X (inplaceOp .Sub) (rI0 fun i j => .int (i - j)) := opI0 fun _ _ _ _ _ _ _ q => isub_int q
theorem iop_mul : OpR X (inplaceOp .Mult) (rI CMul fun i j => .int (i * j)) := opI fun _ _ _ _ _ _ _ hc q => imul_int q hc.ok
theorem iop_fdiv : OpR X (inplaceOp .FloorDiv) (rI CDiv fun i j => .int (i / j)) := opI fun i j _ _ _ _ _ hc q => by
  have h1 : (0 : Int) < j := hc.1
  have h2 : j < 1073741824 := hc.2
  exact ifloordiv_int (by omega) (by rw [Int.fdiv_eq_ediv_of_nonneg i (by omega)]; exact q) (.inl (PyProof.noPylong_small (by omega)))
theorem iop_mod : OpR X (inplaceOp .Mod) (rI (fun _ j => 0 < j) fun i j => .int (i % j)) := opI fun i j _ _ _ _ _ hc q => by
  have h1 : (0 : Int) < j := hc
  exact imod_int (by omega) (by rw [Int.fmod_eq_emod_of_nonneg i (by omega)]; exact q)
theorem iop_shl : OpR X (inplaceOp .LShift) (rI CPow fun i j => .int (i * 2 ^ j.toNat)) := opI fun _ _ _ _ _ _ _ hc q => ilshift_int_small hc.1 hc.2.1 hc.2.2 q
theorem iop_shr : OpR X (inplaceOp .RShift) (rI (fun _ j => 0 ≤ j) fun i j => .int (i / 2 ^ j.toNat)) := opI fun i j _ _ _ _ _ hc q =>
  irshift_int hc (by rw [Int.fdiv_eq_ediv_of_nonneg i (two_pow_nn _)]; exact q)
theorem iop_and : OpR X (inplaceOp .BitAnd) (rI0 fun i j => .int (Builtin.bitAnd i j)) := opI0 fun _ _ _ _ _ _ _ q => iand_int q
theorem iop_or : OpR X (inplaceOp .BitOr) (rI0 fun i j => .int (Builtin.bitOr i j)) := opI0 fun _ _ _ _ _ _ _ q => ior_int q
theorem iop_xor : OpR X (inplaceOp .BitXor) (rI0 fun i j => .int (Builtin.bitXor i j)) := opI0 fun _ _ _ _ _ _ _ q => ixor_int q

theorem unI {f : Value → Sem Value} {g : Int → Int}
    (rule : ∀ (i : Int) (t : Tok) (s : Shared) (Q : Value → Shared → Prop) (E : Value → Shared → Prop), Q (.int (g i) s.toks) { s with toks := s.toks + 1 } → wpAny (model X.prog X.w) X.A (f (.int i t)) Q E s) :
    UnR X f (rU fun i => .int (g i)) := by
  intro pins s σ H x v Q I rx h
  obtain ⟨i, rfl, q⟩ := h
  obtain ⟨t, rfl⟩ := rx
  exact rule i t s _ _ ⟨.int (g i), H, I.tok _, ⟨_, rfl⟩, q⟩
theorem un_neg : UnR X (unaryOp .USub) (rU fun i => .int (-i)) := unI fun _ _ _ _ _ q => neg_int q
theorem un_inv : UnR X (unaryOp .Invert) (rU fun i => .int (Builtin.bitNot i)) := unI fun _ _ _ _ _ q => invert_int q

/-! ### bools among ints: n += (a < b) -/
theorem op_add_ib : OpR X (binaryOp .Add) (fun x y H Q => ∃ i k, x = .int i ∧ y = .bl k ∧ Q (.int (i + b2i k)) H) := by
  intro pins s σ H x y v u Q I rx ry h
  obtain ⟨i, k, rfl, rfl, q⟩ := h
  obtain ⟨t, rfl⟩ := rx
  cases ry
  exact add_int_bool ⟨.int (i + b2i k), H, I.tok _, ⟨_, rfl⟩, q⟩
end

/-! ### comparisons -/
/-- the scalars that == tells apart as data does -/
def scal : V → V → Bool
  | .non, .non => true | .non, .int _ => true | .int _, .non => true | .non, .bl _ => true | .bl _, .non => true | .non, .str _ => true | .str _, .non => true
  | .int _, .int _ => true | .bl _, .bl _ => true | .str _, .str _ => true | .byt _, .byt _ => true
  | .int _, .str _ => true | .str _, .int _ => true | .bl _, .str _ => true | .str _, .bl _ => true
  | _, _ => false
def rEq : R2 := fun x y H Q => scal x y = true ∧ Q (.bl (decide (x = y))) H
def rNe : R2 := fun x y H Q => scal x y = true ∧ Q (.bl (!decide (x = y))) H

theorem dec_int {i j : Int} : decide (V.int i = V.int j) = (i == j) := by
  rw [Bool.eq_iff_iff]
  simp
theorem dec_bl {i j : Bool} : decide (V.bl i = V.bl j) = (i == j) := by
  rw [Bool.eq_iff_iff]
  simp
theorem dec_str {i j : Str} : decide (V.str i = V.str j) = (i == j) := by
  rw [Bool.eq_iff_iff]
  simp
theorem dec_byt {i j : Array UInt8} : decide (V.byt i = V.byt j) = (i.toList == j.toList) := by
  rw [Bool.eq_iff_iff]
  cases i
  cases j
  simp

section
variable {X : Cx} {a b c : Expr} {ta tb tc : TE} {pos : Pos}
theorem fin_bl {pins : List (Addr × Obj)} {σ : St} {H : Hp} {s : Shared} {Q : VK} {k k' : Bool} (I : Inv X pins σ H s) (q : Q (.bl k) H) (e : k = k') : EP X pins σ Q (.bool k') s := by
  subst e
  exact ⟨.bl k, H, I, rfl, q⟩
theorem op_eq : OpR X (compareOp .Eq) rEq := by
  intro pins s σ H x y v u Q I rx ry h
  obtain ⟨hs, q⟩ := h
  cases x with
  | non =>
    cases rx
    cases y with
    | non => cases ry; exact PySem.EqNone.eq_none_none (fin_bl I q (by simp))
    | bl j => cases ry; exact PySem.EqNone.eq_none_bool (fin_bl I q (by simp))
    | int j => obtain ⟨t', rfl⟩ := ry; exact PySem.EqNone.eq_none_int (fin_bl I q (by simp))
    | str j => obtain ⟨t', rfl⟩ := ry; exact PySem.EqNone.eq_none_str (fin_bl I q (by simp))
    | _ => exact absurd (show false = true from hs) Bool.false_ne_true
  | bl i =>
    cases rx
    cases y with
    | non => cases ry; exact PySem.EqNone.eq_bool_none (fin_bl I q (by simp))
    | bl j => cases ry; exact eq_bool (fin_bl I q dec_bl)
    | str j => obtain ⟨t', rfl⟩ := ry; exact PySem.EqMixed.eq_bool_str (fin_bl I q (by simp))
    | _ => exact absurd (show false = true from hs) Bool.false_ne_true
  | int i =>
    obtain ⟨t, rfl⟩ := rx
    cases y with
    | non => cases ry; exact PySem.EqNone.eq_int_none (fin_bl I q (by simp))
    | int j => obtain ⟨t', rfl⟩ := ry; exact eq_int (fin_bl I q dec_int)
    | str j => obtain ⟨t', rfl⟩ := ry; exact PySem.EqMixed.eq_int_str (fin_bl I q (by simp))
    | _ => exact absurd (show false = true from hs) Bool.false_ne_true
  | str i =>
    obtain ⟨t, rfl⟩ := rx
    cases y with
    | non => cases ry; exact PySem.EqNone.eq_str_none (fin_bl I q (by simp))
    | bl j => cases ry; exact PySem.EqMixed.eq_str_bool (fin_bl I q (by simp))
    | int j => obtain ⟨t', rfl⟩ := ry; exact PySem.EqMixed.eq_str_int (fin_bl I q (by simp))
    | str j => obtain ⟨t', rfl⟩ := ry; exact eq_str (fin_bl I q dec_str)
    | _ => exact absurd (show false = true from hs) Bool.false_ne_true
  | byt i =>
    obtain ⟨t, rfl⟩ := rx
    cases y with
    | byt j => obtain ⟨t', rfl⟩ := ry; exact PySem.W.eq_bytes (fin_bl I q dec_byt)
    | _ => exact absurd (show false = true from hs) Bool.false_ne_true
  | _ => cases y <;> exact absurd (show false = true from hs) Bool.false_ne_true
theorem op_ne : OpR X (compareOp .NotEq) rNe := by
  intro pins s σ H x y v u Q I rx ry h
  obtain ⟨hs, q⟩ := h
  cases x with
  | non =>
    cases rx
    cases y with
    | non => cases ry; exact PySem.EqNone.ne_none_none (fin_bl I q (by simp))
    | bl j => cases ry; exact PySem.EqNone.ne_none_bool (fin_bl I q (by simp))
    | int j => obtain ⟨t', rfl⟩ := ry; exact PySem.EqNone.ne_none_int (fin_bl I q (by simp))
    | str j => obtain ⟨t', rfl⟩ := ry; exact PySem.EqNone.ne_none_str (fin_bl I q (by simp))
    | _ => exact absurd (show false = true from hs) Bool.false_ne_true
  | bl i =>
    cases rx
    cases y with
    | non => cases ry; exact PySem.EqNone.ne_bool_none (fin_bl I q (by simp))
    | bl j => cases ry; exact ne_bool (fin_bl I q (congrArg not dec_bl))
    | str j => obtain ⟨t', rfl⟩ := ry; exact PySem.EqMixed.ne_bool_str (fin_bl I q (by simp))
    | _ => exact absurd (show false = true from hs) Bool.false_ne_true
  | int i =>
    obtain ⟨t, rfl⟩ := rx
    cases y with
    | non => cases ry; exact PySem.EqNone.ne_int_none (fin_bl I q (by simp))
    | int j => obtain ⟨t', rfl⟩ := ry; exact ne_int (fin_bl I q (congrArg not dec_int))
    | str j => obtain ⟨t', rfl⟩ := ry; exact PySem.EqMixed.ne_int_str (fin_bl I q (by simp))
    | _ => exact absurd (show false = true from hs) Bool.false_ne_true
  | str i =>
    obtain ⟨t, rfl⟩ := rx
    cases y with
    | non => cases ry; exact PySem.EqNone.ne_str_none (fin_bl I q (by simp))
    | bl j => cases ry; exact PySem.EqMixed.ne_str_bool (fin_bl I q (by simp))
    | int j => obtain ⟨t', rfl⟩ := ry; exact PySem.EqMixed.ne_str_int (fin_bl I q (by simp))
    | str j => obtain ⟨t', rfl⟩ := ry; exact ne_str (fin_bl I q (congrArg not dec_str))
    | _ => exact absurd (show false = true from hs) Bool.false_ne_true
  | byt i =>
    obtain ⟨t, rfl⟩ := rx
    cases y with
    | byt j => obtain ⟨t', rfl⟩ := ry; exact PySem.W.ne_bytes (fin_bl I q (congrArg not dec_byt))
    | _ => exact absurd (show false = true from hs) Bool.false_ne_true
  | _ => cases y <;> exact absurd (show false = true from hs) Bool.false_ne_true

theorem op_lt : OpR X (compareOp .Lt) (rI0 fun i j => .bl (decide (i < j))) := opB0 fun _ _ _ _ _ _ _ q => lt_int q
theorem op_le : OpR X (compareOp .LtE) (rI0 fun i j => .bl (decide (i ≤ j))) := opB0 fun _ _ _ _ _ _ _ q => le_int q
theorem op_gt : OpR X (compareOp .Gt) (rI0 fun i j => .bl (decide (j < i))) := opB0 fun _ _ _ _ _ _ _ q => gt_int q
theorem op_ge : OpR X (compareOp .GtE) (rI0 fun i j => .bl (decide (j ≤ i))) := opB0 fun _ _ _ _ _ _ _ q => ge_int q
theorem op_lt_str : OpR X (compareOp .Lt) (fun x y H Q => ∃ i j, x = .str i ∧ y = .str j ∧ Q (.bl (decide (i.cps.toList < j.cps.toList))) H) := by
  intro pins s σ H x y v u Q I rx ry h
  obtain ⟨i, j, rfl, rfl, q⟩ := h
  obtain ⟨t, rfl⟩ := rx
  obtain ⟨t', rfl⟩ := ry
  exact lt_str (fin_bl I q rfl)
/-- the one string within the other -/
theorem op_in_str : OpR X (compareOp .In) (fun x y H Q => ∃ i j, x = .str i ∧ y = .str j ∧ Q (.bl (!(Builtin.Str.occurrences j i 0 j.length 1).isEmpty)) H) := by
  intro pins s σ H x y v u Q I rx ry h
  obtain ⟨i, j, rfl, rfl, q⟩ := h
  obtain ⟨t, rfl⟩ := rx
  obtain ⟨t', rfl⟩ := ry
  exact in_str (fin_bl I q rfl)

/-- is None, is not None: the right side a value none -/
theorem op_isN : OpR X (compareOp .Is) (fun x y H Q => y = .non ∧ Q (.bl (decide (x = .non))) H) := by
  intro pins s σ H x y v u Q I rx ry h
  obtain ⟨rfl, q⟩ := h
  cases ry
  refine is_none_gen (fin_bl I q ?_)
  cases x <;> first
    | (cases rx; rfl)
    | (obtain ⟨t, rfl⟩ := rx; rfl)
theorem op_notN : OpR X (compareOp .IsNot) (fun x y H Q => y = .non ∧ Q (.bl (!decide (x = .non))) H) := by
  intro pins s σ H x y v u Q I rx ry h
  obtain ⟨rfl, q⟩ := h
  cases ry
  refine isnot_none_gen (fin_bl I q ?_)
  cases x <;> first
    | (cases rx; rfl)
    | (obtain ⟨t, rfl⟩ := rx; rfl)

theorem op_notin_str : OpR X (compareOp .NotIn) (fun x y H Q => ∃ i j, x = .str i ∧ y = .str j ∧ Q (.bl (!(!(Builtin.Str.occurrences j i 0 j.length 1).isEmpty))) H) := by
  intro pins s σ H x y v u Q I rx ry h
  obtain ⟨i, j, rfl, rfl, q⟩ := h
  obtain ⟨t, rfl⟩ := rx
  obtain ⟨t', rfl⟩ := ry
  exact notIn_str (fin_bl I q rfl)
/-- is, is not of two objects that are tracked lists or instances -/
def isObj : HO → Bool
  | .lst _ => true
  | .ins _ _ _ => true
  | _ => false
theorem obj_there {pins : List (Addr × Obj)} {s : Shared} {σ : St} {H : Hp} {a : Addr} {o : HO} (I : Inv X pins σ H s) (h : H a = some o) (p : isObj o = true) : ∃ ob, s.heap.get? a = some ob ∧ ob.cls ≠ .type "tuple" := by
  cases o with
  | lst xs =>
    obtain ⟨_, its, n, _, e⟩ : xs.length ≤ sizeLine ∧ ∃ (its : List Value) (n : Nat), Vals xs its ∧ s.heap.get? a = some { cls := .type "list", data := .seq its.toArray n } := I.hok a _ h
    exact ⟨_, e, (by show Value.type "list" ≠ .type "tuple"; decide +kernel)⟩
  | ins C dx fs =>
    have x := I.hok a _ h
    obtain ⟨_, _, _, e, _⟩ := x
    exact ⟨_, e, (by show Value.ref C ≠ .type "tuple"; exact fun z => by cases z)⟩
  | _ => exact absurd (show false = true from p) Bool.false_ne_true
theorem op_is_ref : OpR X (compareOp .Is) (fun x y H Q => ∃ a b oa ob, x = .ref a ∧ y = .ref b ∧ H a = some oa ∧ isObj oa = true ∧ H b = some ob ∧ isObj ob = true ∧ Q (.bl (decide (a = b))) H) := by
  intro pins s σ H x y v u Q I rx ry h
  obtain ⟨a, b, oa, ob, rfl, rfl, ha, pa, hb, pb, q⟩ := h
  cases rx
  cases ry
  obtain ⟨o1, e1, n1⟩ := obj_there I ha pa
  obtain ⟨o2, e2, _⟩ := obj_there I hb pb
  by_cases z : a = b
  · subst z
    exact wpAny_is_ref_self (fin_bl I q (by simp))
  · exact wpAny_is_ref_other z e1 e2 n1 (fin_bl I q (by simp [z]))
theorem op_isnot_ref : OpR X (compareOp .IsNot) (fun x y H Q => ∃ a b oa ob, x = .ref a ∧ y = .ref b ∧ H a = some oa ∧ isObj oa = true ∧ H b = some ob ∧ isObj ob = true ∧ Q (.bl (!decide (a = b))) H) := by
  intro pins s σ H x y v u Q I rx ry h
  obtain ⟨a, b, oa, ob, rfl, rfl, ha, pa, hb, pb, q⟩ := h
  cases rx
  cases ry
  obtain ⟨o1, e1, n1⟩ := obj_there I ha pa
  obtain ⟨o2, e2, _⟩ := obj_there I hb pb
  by_cases z : a = b
  · subst z
    exact wpAny_isNot_ref_self (fin_bl I q (by simp))
  · exact wpAny_isNot_ref_other z e1 e2 n1 (fin_bl I q (by simp [z]))

/-- two rules for one operation: by cases -/
theorem OpR.or {f : Value → Value → Sem Value} {r r' : R2} (h : OpR X f r) (h' : OpR X f r') : OpR X f (fun x y H Q => r x y H Q ∨ r' x y H Q) := by
  intro pins s σ H x y v u Q I rx ry q
  rcases q with q | q
  · exact h pins s σ H x y v u Q I rx ry q
  · exact h' pins s σ H x y v u Q I rx ry q

theorem nomark (b : Expr) {op : CmpOp} (h : op ≠ .In := by decide) (h2 : op ≠ .NotIn := by decide) : behindInMarks op b = false := by
  have e1 : (op == CmpOp.In) = false := by cases op <;> first | rfl | exact absurd rfl h
  have e2 : (op == CmpOp.NotIn) = false := by cases op <;> first | rfl | exact absurd rfl h2
  cases b <;> simp [behindInMarks, e1, e2]
/-- a comparison as a value; hm: nomark b, or (for in, not in) by with_unfolding_all rfl -/
theorem pe_cmpR {op : CmpOp} {r : R2} (ho : OpR X (compareOp op) r) (ha : PE X a ta) (hb : PE X b tb) (hm : behindInMarks op b = false) : PE X (.Compare a [op] [b] pos) (tOp r ta tb) := by
  intro pins s σ H Q I h
  exact wpAny_Compare1 (binT ha hb I h fun v u s2 x y H2 I2 rx ry q => ho pins s2 σ H2 x y v u Q I2 rx ry q) hm
/-- a reading of a value as a test -/
def tTest (t : TE) : TT := fun σ H Q => t σ H fun x H' => ∃ k, x = .bl k ∧ Q k H'
theorem pt_cmpR {op : CmpOp} {r : R2} (ho : OpR X (compareOp op) r) (ha : PE X a ta) (hb : PE X b tb) (hm : behindInMarks op b = false) : PT X (.Compare a [op] [b] pos) (tTest (tOp r ta tb)) := by
  intro pins s σ H Q I h
  refine wpAny_isTrue_Compare1 (thn (ha pins s σ H _ I h) fun v s1 ⟨x, H1, I1, r1, q1⟩ => thn (hb pins s1 σ H1 _ I1 q1) fun u s2 ⟨y, H2, I2, r2, q2⟩ =>
    thn (ho pins s2 σ H2 x y v u _ I2 r1 r2 q2) fun c s3 ⟨z, H3, I3, r3, k, e, q3⟩ => ?_) hm
  subst e
  cases r3
  exact wpAny_truthy_bool ⟨H3, I3, q3⟩
/-- a op1 b op2 c -/
def tChain (r r' : R2) (ta tb tc : TE) : TE := fun σ H Q => ta σ H fun x H1 => tb σ H1 fun y H2 => r x y H2 fun z H3 => ∃ k, z = .bl k ∧
  (if k = true then tc σ H3 fun w' H4 => r' y w' H4 Q else Q (.bl false) H3)
theorem pe_chain {op op' : CmpOp} {r r' : R2} (ho : OpR X (compareOp op) r) (ho' : OpR X (compareOp op') r') (ha : PE X a ta) (hb : PE X b tb) (hc : PE X c tc)
    (hm : lastMarks [op, op'] [b, c] = false := by with_unfolding_all rfl) : PE X (.Compare a [op, op'] [b, c] pos) (tChain r r' ta tb tc) := by
  intro pins s σ H Q I h
  refine Compare_chain (thn (ha pins s σ H _ I h) fun v s1 ⟨x, H1, I1, r1, q1⟩ => chain_link (thn (hb pins s1 σ H1 _ I1 q1) fun u s2 ⟨y, H2, I2, r2, q2⟩ =>
    thn (ho pins s2 σ H2 x y v u _ I2 r1 r2 q2) fun d s3 ⟨z, H3, I3, r3, k, e, q3⟩ => ?_)) hm
  subst e
  cases r3
  refine wpAny_truthy_bool ?_
  cases k with
  | false => exact ite_ff ⟨.bl false, H3, I3, rfl, q3⟩
  | true => exact ite_tt (chain_last (thn (hc pins s3 σ H3 _ I3 q3) fun w' s4 ⟨z', H4, I4, r4, q4⟩ => ho' pins s4 σ H4 y z' u w' Q I4 r2 r4 q4))
theorem pt_chain {op op' : CmpOp} {r r' : R2} (ho : OpR X (compareOp op) r) (ho' : OpR X (compareOp op') r') (ha : PE X a ta) (hb : PE X b tb) (hc : PE X c tc)
    (hm : lastMarks [op, op'] [b, c] = false := by with_unfolding_all rfl) : PT X (.Compare a [op, op'] [b, c] pos) (tTest (tChain r r' ta tb tc)) := by
  intro pins s σ H Q I h
  refine isTrue_chain (thn (ha pins s σ H _ I h) fun v s1 ⟨x, H1, I1, r1, q1⟩ => test_link (thn (hb pins s1 σ H1 _ I1 q1) fun u s2 ⟨y, H2, I2, r2, q2⟩ =>
    thn (ho pins s2 σ H2 x y v u _ I2 r1 r2 q2) fun d s3 ⟨z, H3, I3, r3, k, e, q3⟩ => ?_)) hm
  subst e
  cases r3
  refine wpAny_truthy_bool ?_
  cases k with
  | false =>
    obtain ⟨k', e', q'⟩ := q3
    cases e'
    exact ite_ff ⟨H3, I3, q'⟩
  | true =>
    refine ite_tt (test_last (thn (hc pins s3 σ H3 _ I3 q3) fun w' s4 ⟨z', H4, I4, r4, q4⟩ => thn (ho' pins s4 σ H4 y z' u w' _ I4 r2 r4 q4) fun d' s5 ⟨z2, H5, I5, r5, k2, e2, q5⟩ => ?_))
    subst e2
    cases r5
    exact wpAny_truthy_bool ⟨H5, I5, q5⟩

/-! ### truth -/
/-- a value's truth by the abstract heap -/
def TruV (K : PySem.W.Frag) (x : V) (H : Hp) (k : Bool) : Prop :=
  match x with
  | .non => k = false
  | .bl b => k = b
  | .int i => k = (i != 0)
  | .str y => y.length ≤ sizeLine ∧ k = ((y.length : Int) != 0)
  | .byt y => y.size ≤ sizeLine ∧ k = ((y.size : Int) != 0)
  | .ref p => (∃ xs, SqL K H p xs ∧ k = !xs.isEmpty) ∨ (∃ xs, SqT K H p xs ∧ k = !xs.isEmpty) ∨ ∃ kvs, H p = some (.dK kvs) ∧ k = !kvs.isEmpty
  | _ => False
theorem isEmpty_kv {κ : Type} {kvs : List (κ × V)} {vs : List (κ × Value)} (r : KV kvs vs) : (!vs.isEmpty) = !kvs.isEmpty := by
  cases r <;> rfl
theorem isEmpty_of {xs : List V} {its : List Value} (r : Vals xs its) : (!its.toArray.isEmpty) = !xs.isEmpty := by
  cases r <;> simp
theorem line63 : (sizeLine : Nat) < 2 ^ 63 := by rw [sizeLine_eq]; decide
theorem tru_ok : TruR X (fun x H Q => ∃ k, TruV X.K x H k ∧ Q k H) := by
  intro pins s σ H x v Q I rx h
  obtain ⟨k, e, q⟩ := h
  have hl := line63
  have hs : sizeLine = 16777216 := sizeLine_eq
  cases x with
  | non =>
    cases rx
    have e' : k = false := e
    subst e'
    exact truthy_none ⟨H, I, q⟩
  | bl b =>
    cases rx
    have e' : k = b := e
    subst e'
    exact wpAny_truthy_bool ⟨H, I, q⟩
  | int i =>
    obtain ⟨t, rfl⟩ := rx
    have e' : k = (i != 0) := e
    subst e'
    exact PySem.P.truthy_int ⟨H, I, q⟩
  | str y =>
    obtain ⟨t, rfl⟩ := rx
    obtain ⟨hy, e'⟩ : y.length ≤ sizeLine ∧ k = ((y.length : Int) != 0) := e
    subst e'
    exact PySem.P.truthy_str (by omega) ⟨H, I.tok _, q⟩
  | byt y =>
    obtain ⟨t, rfl⟩ := rx
    obtain ⟨hy, e'⟩ : y.size ≤ sizeLine ∧ k = ((y.size : Int) != 0) := e
    subst e'
    exact PySem.W.truthy_bytes (by omega) ⟨H, I.tok _, q⟩
  | ref p =>
    cases rx
    have e' : (∃ xs, SqL X.K H p xs ∧ k = !xs.isEmpty) ∨ (∃ xs, SqT X.K H p xs ∧ k = !xs.isEmpty) ∨ ∃ kvs, H p = some (.dK kvs) ∧ k = !kvs.isEmpty := e
    rcases e' with ⟨xs, hx, e'⟩ | ⟨xs, hx, e'⟩ | ⟨kvs, hx, e'⟩
    · subst e'
      obtain ⟨its, r, pl, hz⟩ := I.list hx
      have hlen := r.length
      exact wpAny_truthy_list pl.isList (by simp only [List.size_toArray]; omega) ⟨H, I.tok _, by rw [isEmpty_of r]; exact q⟩
    · subst e'
      obtain ⟨its, r, pl, hz⟩ := I.tuple hx
      have hlen := r.length
      exact truthy_tuple pl (by simp only [List.size_toArray]; omega) ⟨H, I.tok _, by rw [isEmpty_of r]; exact q⟩
    · subst e'
      obtain ⟨hz, hS, vs, r, m⟩ : kvs.length ≤ sizeLine ∧ (p == sysModules) = false ∧ ∃ vs, KV kvs vs ∧ s.heap.DictOf (mixKind X.prog X.w) p vs := I.hok p _ hx
      have hlen : kvs.length = vs.length := Paired.length r
      exact wpAny_truthy_dict hS m (by omega) ⟨H, I.tok _, by rw [isEmpty_kv r]; exact q⟩
  | _ => exact (show False from e).elim
/-- any expression whose test is its value's truth (a name, a call, a subscript, a field ..: he by fun _ => rfl) -/
theorem pt_truth (ha : PE X a ta) (he : ∀ whole, isTrue a X.env whole = (do let v ← whole; standAt a.pos; holding [v] (truthy v))) :
    PT X a (fun σ H Q => ta σ H fun x H' => ∃ k, TruV X.K x H' k ∧ Q k H') := by
  intro pins s σ H Q I h
  exact isTrue_plain (thn (ha pins s σ H _ I h) fun v s1 ⟨x, H1, I1, r1, q1⟩ => tru_ok pins s1 σ H1 x v Q I1 r1 q1) (he _)

/-! ### strs and bytes -/
theorem pe_byt {x : List UInt8} {k : Nat} : PE X (.Constant (.bytes x) k pos) (fun _ H Q => Q (.byt x.toArray) H) := fun _ _ _ H _ I h => PySem.W.Constant_bytes ⟨.byt x.toArray, H, I.tok _, ⟨_, rfl⟩, h⟩
theorem op_add_str : OpR X (binaryOp .Add) (fun x y H Q => ∃ i j, x = .str i ∧ y = .str j ∧ i.length + j.length ≤ sizeLine ∧ Q (.str (i ++ j)) H) := by
  intro pins s σ H x y v u Q I rx ry h
  obtain ⟨i, j, rfl, rfl, hz, q⟩ := h
  obtain ⟨t, rfl⟩ := rx
  obtain ⟨t', rfl⟩ := ry
  exact add_str (fun t' tk => ⟨.str (i ++ j), H, I.tok _, ⟨_, rfl⟩, q⟩) hz
theorem iop_add_str : OpR X (inplaceOp .Add) (fun x y H Q => ∃ i j, x = .str i ∧ y = .str j ∧ i.length + j.length ≤ sizeLine ∧ Q (.str (i ++ j)) H) := by
  intro pins s σ H x y v u Q I rx ry h
  obtain ⟨i, j, rfl, rfl, hz, q⟩ := h
  obtain ⟨t, rfl⟩ := rx
  obtain ⟨t', rfl⟩ := ry
  exact iadd_str (fun t' tk => ⟨.str (i ++ j), H, I.tok _, ⟨_, rfl⟩, q⟩) hz
theorem op_add_byt : OpR X (binaryOp .Add) (fun x y H Q => ∃ i j, x = .byt i ∧ y = .byt j ∧ i.size + j.size ≤ 16777216 ∧ Q (.byt (i ++ j)) H) := by
  intro pins s σ H x y v u Q I rx ry h
  obtain ⟨i, j, rfl, rfl, hz, q⟩ := h
  obtain ⟨t, rfl⟩ := rx
  obtain ⟨t', rfl⟩ := ry
  exact PySem.W.KBy.add_bytes hz (fun t' tk => ⟨.byt (i ++ j), H, I.tok _, ⟨_, rfl⟩, q⟩)

def PlainIxT (b : Expr) : Prop := ∀ o i, subscripted b false o i = operate [o, i] (getItem o i)
/-- s[i], 0 ≤ i < len -/
theorem pe_item_str (ha : PE X a ta) (hb : PE X b tb) (hs : PlainIxT b) :
    PE X (.Subscript a b pos) (tOp (fun x y H Q => ∃ z i c, x = .str z ∧ y = .int i ∧ 0 ≤ i ∧ i < 2 ^ 63 ∧ i < z.length ∧ z.cps[i.toNat]? = some c ∧ Q (.str ⟨#[c]⟩) H) ta tb) := by
  intro pins s σ H Q I h
  refine Subscript_ (binT ha hb I h fun v u s2 x y H2 I2 rx ry q => ?_)
  obtain ⟨z, i, c, rfl, rfl, h0, h63, h1, hc, q⟩ := q
  obtain ⟨t, rfl⟩ := rx
  obtain ⟨t', rfl⟩ := ry
  have e : seqIndex? i z.length = some i.toNat := PySem.StrLaws.seqIndex_nonneg h0 h1
  exact tail_any (typeIs_str s2 z t) slot_str_getitem.lookup (getItem_str (c := c) (by
    have e1 : decide (i < -(2 ^ 63 : Int)) = false := decide_eq_false (by omega)
    have e2 : decide (i ≥ 2 ^ 63) = false := decide_eq_false (by omega)
    rw [e1, e2] <;> rfl) (by rw [e]; exact hc) ⟨.str ⟨#[c]⟩, H2, I2.tok _, ⟨_, rfl⟩, q⟩) (hs _ _)
/-- b[i], 0 ≤ i < len -/
theorem pe_item_byt (ha : PE X a ta) (hb : PE X b tb) (hs : PlainIxT b) :
    PE X (.Subscript a b pos) (tOp (fun x y H Q => ∃ (z : List UInt8) (i : Int), x = .byt z.toArray ∧ y = .int i ∧ z.length ≤ sizeLine ∧ 0 ≤ i ∧ i < z.length ∧ Q (.int ((z.getD i.toNat 0).toNat : Nat)) H) ta tb) := by
  intro pins s σ H Q I h
  refine Subscript_ (binT ha hb I h fun v u s2 x y H2 I2 rx ry q => ?_)
  obtain ⟨z, i, rfl, rfl, hz, h0, h1, q⟩ := q
  obtain ⟨t, rfl⟩ := rx
  obtain ⟨t', rfl⟩ := ry
  have hl : sizeLine = 16777216 := sizeLine_eq
  exact tail_any (PySem.W.typeIs_bytes s2 z.toArray t) PySem.W.FB.slot_bytes_getitem.lookup (PySem.W.getItem_bytes (by omega) h0 h1 ⟨.int ((z.getD i.toNat 0).toNat : Nat), H2, I2.tok _, ⟨_, rfl⟩, q⟩) (hs _ _)

/-! ### scalar builtins, by CallR -/
theorem vals1 {x : V} {us : List Value} (r : Vals [x] us) : ∃ u, us = [u] ∧ RelV x u := by
  cases r with
  | cons r1 r2 => cases r2; exact ⟨_, rfl, r1⟩
theorem vals2 {x y : V} {us : List Value} (r : Vals [x, y] us) : ∃ u w', us = [u, w'] ∧ RelV x u ∧ RelV y w' := by
  cases r with
  | cons r1 r2 =>
    cases r2 with
    | cons r3 r4 => cases r4; exact ⟨_, _, rfl, r1, r3⟩
theorem call_abs : CallR X (.builtin "abs") (fun xs H Q => ∃ i, xs = [.int i] ∧ Q (.int (if i < 0 then -i else i)) H) := by
  intro pins s σ H xs us Q I r h
  obtain ⟨i, rfl, q⟩ := h
  obtain ⟨u, rfl, t, rfl⟩ := vals1 r
  exact call_abs_int fun u tk => ⟨.int (if i < 0 then -i else i), H, I.tok _, ⟨_, rfl⟩, q⟩
theorem call_max2 (hc : X.calm = true) : CallR X (.builtin "max") (fun xs H Q => ∃ i j, xs = [.int i, .int j] ∧ Q (.int (if j > i then j else i)) H) := by
  intro pins s σ H xs us Q I r h
  obtain ⟨i, j, rfl, q⟩ := h
  obtain ⟨u, w', rfl, ⟨t, rfl⟩, ⟨t', rfl⟩⟩ := vals2 r
  refine max_two_ints (I.ok.hd hc) fun h' tk k => ⟨_, H, I.kept k, ?_, q⟩
  by_cases hj : j > i
  · rw [if_pos hj, if_pos hj]; exact ⟨_, rfl⟩
  · rw [if_neg hj, if_neg hj]; exact ⟨_, rfl⟩
theorem call_min2 (hc : X.calm = true) : CallR X (.builtin "min") (fun xs H Q => ∃ i j, xs = [.int i, .int j] ∧ Q (.int (if j < i then j else i)) H) := by
  intro pins s σ H xs us Q I r h
  obtain ⟨i, j, rfl, q⟩ := h
  obtain ⟨u, w', rfl, ⟨t, rfl⟩, ⟨t', rfl⟩⟩ := vals2 r
  refine min_two_ints (I.ok.hd hc) fun h' tk k => ⟨_, H, I.kept k, ?_, q⟩
  by_cases hj : j < i
  · rw [if_pos hj, if_pos hj]; exact ⟨_, rfl⟩
  · rw [if_neg hj, if_neg hj]; exact ⟨_, rfl⟩
theorem call_int1 : CallR X (.type "int") (fun xs H Q => (∃ i, xs = [.int i] ∧ Q (.int i) H) ∨ ∃ k, xs = [.bl k] ∧ Q (.int (if k then 1 else 0)) H) := by
  intro pins s σ H xs us Q I r h
  rcases h with ⟨i, rfl, q⟩ | ⟨k, rfl, q⟩
  · obtain ⟨u, rfl, t, rfl⟩ := vals1 r
    exact call_int_int ⟨.int i, H, I, ⟨_, rfl⟩, q⟩
  · obtain ⟨u, rfl, r1⟩ := vals1 r
    cases r1
    exact call_int_bool ⟨.int (if k then 1 else 0), H, I.tok _, ⟨_, rfl⟩, q⟩
theorem call_bool1 : CallR X (.type "bool") (fun xs H Q => (∃ i, xs = [.int i] ∧ Q (.bl (i != 0)) H) ∨ ∃ k, xs = [.bl k] ∧ Q (.bl k) H) := by
  intro pins s σ H xs us Q I r h
  rcases h with ⟨i, rfl, q⟩ | ⟨k, rfl, q⟩
  · obtain ⟨u, rfl, t, rfl⟩ := vals1 r
    exact call_bool_int ⟨.bl (i != 0), H, I, rfl, q⟩
  · obtain ⟨u, rfl, r1⟩ := vals1 r
    cases r1
    exact call_bool_bool ⟨.bl k, H, I, rfl, q⟩
theorem call_str_int : CallR X (.type "str") (fun xs H Q => ∃ i, xs = [.int i] ∧ i.natAbs.log2 < 1920 ∧ Q (.str (toString i)) H) := by
  intro pins s σ H xs us Q I r h
  obtain ⟨i, rfl, hz, q⟩ := h
  obtain ⟨u, rfl, t, rfl⟩ := vals1 r
  exact PySem.P.str_of_int hz ⟨.str _, H, I.tok _, ⟨_, rfl⟩, q⟩
theorem call_ord : CallR X (.builtin "ord") (fun xs H Q => ∃ x, xs = [.str x] ∧ x.length = 1 ∧ Q (.int (x.cps.getD 0 0 : Nat)) H) := by
  intro pins s σ H xs us Q I r h
  obtain ⟨x, rfl, hz, q⟩ := h
  obtain ⟨u, rfl, t, rfl⟩ := vals1 r
  exact ord_of_one hz ⟨.int _, H, I.tok _, ⟨_, rfl⟩, q⟩
theorem call_chr : CallR X (.builtin "chr") (fun xs H Q => ∃ i, xs = [.int i] ∧ 0 ≤ i ∧ i ≤ 1114111 ∧ Q (.str ⟨#[i.toNat]⟩) H) := by
  intro pins s σ H xs us Q I r h
  obtain ⟨i, rfl, h0, h1, q⟩ := h
  obtain ⟨u, rfl, t, rfl⟩ := vals1 r
  exact chr_of_range h0 h1 ⟨.str _, H, I.tok _, ⟨_, rfl⟩, q⟩
/-- len of a str, a bytes, a list, a tuple -/
def LenV (K : PySem.W.Frag) (x : V) (H : Hp) (n : Nat) : Prop :=
  match x with
  | .str y => y.length ≤ sizeLine ∧ n = y.length
  | .byt y => y.size ≤ sizeLine ∧ n = y.size
  | .ref p => (∃ xs, SqL K H p xs ∧ n = xs.length) ∨ ∃ xs, SqT K H p xs ∧ n = xs.length
  | _ => False
theorem call_len : CallR X (.builtin "len") (fun xs H Q => ∃ x n, xs = [x] ∧ LenV X.K x H n ∧ Q (.int n) H) := by
  intro pins s σ H xs us Q I r h
  obtain ⟨x, n, rfl, e, q⟩ := h
  obtain ⟨u, rfl, rx⟩ := vals1 r
  have hl := line63
  have hs : sizeLine = 16777216 := sizeLine_eq
  cases x with
  | str y =>
    obtain ⟨t, rfl⟩ := rx
    obtain ⟨hy, e'⟩ : y.length ≤ sizeLine ∧ n = y.length := e
    subst e'
    exact len_str (by omega) ⟨.int _, H, I.tok _, ⟨_, rfl⟩, q⟩
  | byt y =>
    obtain ⟨t, rfl⟩ := rx
    obtain ⟨hy, e'⟩ : y.size ≤ sizeLine ∧ n = y.size := e
    subst e'
    exact PySem.W.len_bytes (by omega) ⟨.int _, H, I.tok _, ⟨_, rfl⟩, q⟩
  | ref p =>
    cases rx
    have e' : (∃ xs, SqL X.K H p xs ∧ n = xs.length) ∨ ∃ xs, SqT X.K H p xs ∧ n = xs.length := e
    rcases e' with ⟨xs, hx, e'⟩ | ⟨xs, hx, e'⟩
    · subst e'
      obtain ⟨its, r', pl, hz⟩ := I.list hx
      have hlen := r'.length
      exact Calls.call_len_list pl.isList (by simp only [List.size_toArray]; omega) ⟨.int xs.length, H, I.tok _, ⟨_, by simp only [List.size_toArray]; rw [hlen]⟩, q⟩
    · subst e'
      obtain ⟨its, r', pl, hz⟩ := I.tuple hx
      have hlen := r'.length
      exact len_tuple pl (by simp only [List.size_toArray]; omega) ⟨.int xs.length, H, I.tok _, ⟨_, by simp only [List.size_toArray]; rw [hlen]⟩, q⟩
  | _ => exact (show False from e).elim
/-- divmod: a new tuple -/
theorem call_divmod : CallR X (.builtin "divmod") (fun xs H Q => ∃ i j, xs = [.int i, .int j] ∧ CDiv i j ∧ ∀ p, H p = none → Q (.ref p) (upd H p (.tup [.int (i / j), .int (i % j)]))) := by
  intro pins s σ H xs us Q I r h
  obtain ⟨i, j, rfl, ⟨h1, h2⟩, q⟩ := h
  obtain ⟨u, w', rfl, ⟨t, rfl⟩, ⟨t', rfl⟩⟩ := vals2 r
  refine divmod_int (by omega) ?_ (.inl (PyProof.noPylong_small (by omega)))
  rw [Int.fdiv_eq_ediv_of_nonneg i (by omega), Int.fmod_eq_emod_of_nonneg i (by omega)]
  have hn : H s.heap.objs.size = none := I.hok.fresh (Nat.le_refl _)
  refine ⟨.ref s.heap.objs.size, _, ?_, rfl, q _ hn⟩
  refine I.laid (fun b o e => Heap.get?_push_of_some _ e) (Nat.le_refl _) ⟨by simp only [List.length_cons, List.length_nil]; rw [sizeLine_eq]; decide, [.int (i / j) s.toks, .int (i % j) (s.toks + 1)], .cons ⟨_, rfl⟩ (.cons ⟨_, rfl⟩ .nil), ?_⟩
  exact ⟨⟨_, Heap.get?_push_size s.heap rfl, rfl, 0, rfl⟩, _, Heap.get?_push_size s.heap rfl, rfl⟩
end
end L2

namespace L2
open PySem PySem.Spec PyProof.Rows

/-! ### an instance, its attributes a map -/
structure ObjM (h : Heap) (x dx C : Addr) (mA : Str → Option Value) : Prop where
  obj : h.get? x = some (PySem.W.instObj C dx)
  ns : h.Ns1 dx mA
  ne : dx ≠ x

theorem lookIn_ns {h : Heap} {dx : Addr} {mA : Str → Option Value} (n : h.Ns1 dx mA) : ∃ od, h.get? dx = some od ∧ ∀ name, PySem.W.lookIn name od = some (mA name) := by
  obtain ⟨o, es, ep, ho, hd, hk, _, hm⟩ := n
  refine ⟨o, ho, fun name => ?_⟩
  have e := hm name
  unfold nsFind findBy at e
  rw [← Array.find?_toList] at e
  unfold PySem.W.lookIn
  rw [hd]
  dsimp only
  split
  · rename_i y q
    rw [q] at e
    exact congrArg some e
  · rename_i q
    rw [q] at e
    have a : es.toList.any (·.refKey) = false := by
      rw [List.any_eq_false]
      intro y hy
      obtain ⟨z, t, hkey⟩ := hk y (Array.mem_toList_iff.mp hy)
      simp [DictEntry.refKey, hkey]
    have a' : ¬ es.toList.any (·.refKey) = true := by rw [a]; exact Bool.false_ne_true
    rw [if_neg a']
    exact congrArg some e

theorem ObjM.look {h : Heap} {x dx C : Addr} {mA : Str → Option Value} (I : ObjM h x dx C mA) : ∃ od, PySem.W.InstAt h x (PySem.W.instObj C dx) C (some od) ∧ ∀ name, PySem.W.lookIn name od = some (mA name) :=
  let ⟨od, ho, hl⟩ := lookIn_ns I.ns
  ⟨od, ⟨I.obj, rfl, rfl, ho⟩, hl⟩

section
variable {prog : Program} {w : World} {A : Around} {E : Value → Shared → Prop} {s : Shared} {K : PySem.W.Frag} {x dx C f : Addr} {mA : Str → Option Value} {name : Str} {v : Value}

theorem get_map {expr : Bool} {Q : Value → Shared → Prop} (X : K.In s.heap) (I : ObjM s.heap x dx C mA) (hg : PySem.W.plainGet K C name = true) (hh : PySem.W.hasDictIn K C = true)
    (ha : PySem.W.findIn K (.ref C) name = some none) (hv : mA name = some v) (hv' : PySem.W.handedIn v = true) (h : Q v { s with toks := s.toks + 1 }) :
    wpAny (model prog w) A (getAttr (.ref x) name expr) Q E s := by
  obtain ⟨od, J, hl⟩ := I.look
  exact PySem.W.get_value X J (PySem.W.plainGet_of hg).1 (PySem.W.findObj_own hh ha rfl (by rw [hl, hv])) hv' h

theorem get_const {expr : Bool} {a : Value} {Q : Value → Shared → Prop} (X : K.In s.heap) (I : ObjM s.heap x dx C mA) (hg : PySem.W.plainGet K C name = true) (hh : PySem.W.hasDictIn K C = true)
    (ha : PySem.W.findIn K (.ref C) name = some (some a)) (hn : PySem.W.specialIn K a "__get__" = some none) (hc : PySem.W.copiedNames.contains name = false) (hv : mA name = none) (hv' : PySem.W.handedIn a = true)
    (h : Q a { s with toks := s.toks + 1 }) : wpAny (model prog w) A (getAttr (.ref x) name expr) Q E s := by
  obtain ⟨od, J, hl⟩ := I.look
  exact PySem.W.get_value X J (PySem.W.plainGet_of hg).1 (PySem.W.findObj_cls hh ha hn hv' hc (by rw [hl, hv])) hv' h

theorem get_meth {pl : Sem Bool} {Q : Value × List Value → Shared → Prop} (X : K.In s.heap) (I : ObjM s.heap x dx C mA) (hg : PySem.W.plainGet K C name = true)
    (hf : PySem.W.findIn K (.ref C) name = some (some (.ref f))) (ht : PySem.W.isFn K (.ref f) = true) (hv : mA name = none) (h : Q (.ref f, [.ref x]) s) :
    wpAny (model prog w) A (getMethod (.ref x) name pl) Q E s := by
  obtain ⟨od, J, hl⟩ := I.look
  exact PySem.W.method_fn X J (PySem.W.plainGet_of hg).1 (PySem.W.plainGet_of hg).2 hf (beq_iff_eq.mp ht) (by show (PySem.W.lookIn name od).map (·.isSome) = some false; rw [hl, hv]; rfl) h

theorem set_map {ns : List Str} {Q : Unit → Shared → Prop} (X : K.In s.heap) (I : ObjM s.heap x dx C mA)
    (hs : PySem.W.findIn K (.ref C) "__setattr__" = some (some (.builtin "object.__setattr__"))) (hp : PySem.W.plainOver K C = true) (ht : PySem.W.takerIn K C name = some none) (hh : PySem.W.hasDictIn K C = true)
    (hw : PySem.Within mA ns) (hsz : ns.length ≤ sizeLine)
    (h : ∀ h', ObjM h' x dx C (fun y => if y = name then some v else mA y) → Heap.SameBut dx s.heap h' → Q () { s with heap := h', toks := s.toks + 2 }) :
    wpAny (model prog w) A (setAttr (.ref x) name v) Q E s := by
  obtain ⟨od, J, hl⟩ := I.look
  refine PySem.W.set_plain X J hs (PySem.W.osa_open (s := { s with toks := s.toks + 1 }) (r := none) X J hp ht fun b => ?_)
  obtain ⟨cd, hc, hd'⟩ := PySem.W.any_some hh
  have hx : s.heap.get? x = some ⟨.ref C, some dx, .plain, #[]⟩ := I.obj
  refine wpAny_bind (wpAny_pure (wpAny_bind (wpAny_bind (wpAny_loadPart hx (wpAny_bind (PySem.W.Looks.here (s := { s with toks := s.toks + 1 }) (PySem.W.looks_clsIn X hc) ?_))))))
  rw [hd']
  refine wpAny_pure (a := some dx) (wpAny_bind (wpAny_pure (wpAny_bind ?_)))
  refine wpAny_nsSet1 (s := { s with toks := s.toks + 1 }) I.ns fun h' hn2 hs2 => ?_
  obtain ⟨oD, esD, epD, hoD, hdD, hcD⟩ := hn2.count (PySem.Within.cons name v hw)
  refine wpAny_bind (wpAny_lookBehind hoD (by rw [hdD]; exact pastItsLine_dict (Nat.le_trans hcD (by rw [List.length_cons]; omega))) ?_)
  exact wpAny_pure (h _ ⟨(hs2.2 _ (Ne.symm I.ne)).trans I.obj, hn2, I.ne⟩ hs2)

/-- C(..): the dict at the heap's end, the instance behind it; then its __init__ -/
theorem make_map {R : Result → Shared → Prop} {vs : List Value} {kw : List (Str × Value)} (X : K.In s.heap) (hm : PySem.W.makesIn K C = true)
    (hi : PySem.W.findIn K (.ref C) "__init__" = some (some (.ref f))) (hf : PySem.W.typeIn K (.ref f) = some (.type "function"))
    (h : codeAny (model prog w) (A.under (.builtin "type.__call__" ⟨.ref C :: vs, kw⟩)) (.call (.ref f) ⟨.ref (s.heap.objs.size + 1) :: vs, kw⟩) (PySem.W.InitBack (s.heap.objs.size + 1) R)
      { s with heap := (s.heap.push PySem.W.emptyDict).push (PySem.W.instObj C s.heap.objs.size) }) :
    codeAny (model prog w) A (.call (.ref C) ⟨vs, kw⟩) R s := by
  obtain ⟨hh, g, d, t, os⟩ := s
  exact PySem.W.make_core (PySem.W.makes_of X hm) (PySem.W.looks_findIn X hi) (fun self => PySem.W.bind_fn X self hf) (.inl rfl) h
/-- C() where there is no __init__ but object's -/
theorem make_map0 {R : Result → Shared → Prop} (X : K.In s.heap) (hm : PySem.W.makesIn K C = true)
    (hi : PySem.W.findIn K (.ref C) "__init__" = some (some (.builtin "object.__init__")))
    (hb : ∀ self, PySem.W.Looks (model prog w) s.heap (bindSpecial (.builtin "object.__init__") self) (.builtin "object.__init__", [self]))
    (h : codeAny (model prog w) (A.under (.builtin "type.__call__" ⟨[.ref C], []⟩)) (.call (.builtin "object.__init__") ⟨[.ref (s.heap.objs.size + 1)], []⟩) (PySem.W.InitBack (s.heap.objs.size + 1) R)
      { s with heap := (s.heap.push PySem.W.emptyDict).push (PySem.W.instObj C s.heap.objs.size) }) :
    codeAny (model prog w) A (.call (.ref C) ⟨[], []⟩) R s := by
  obtain ⟨hh, g, d, t, os⟩ := s
  exact PySem.W.make_core (PySem.W.makes_of X hm) (PySem.W.looks_findIn X hi) hb (.inr ⟨rfl, rfl⟩) h
end

/-! ### the attributes as a list of pairs -/
def putF (f : Str) (v : V) : List (Str × V) → List (Str × V)
  | [] => [(f, v)]
  | (g, x) :: r => if g = f then (g, v) :: r else (g, x) :: putF f v r
theorem lookup_putF (f g : Str) (v : V) : ∀ fs : List (Str × V), (putF f v fs).lookup g = if g = f then some v else fs.lookup g
  | [] => by
    show List.lookup g [(f, v)] = _
    by_cases h : g = f
    · have hb : (g == f) = true := beq_iff_eq.mpr h
      simp only [List.lookup, hb, if_pos h]
    · have hb : (g == f) = false := beq_eq_false_iff_ne.mpr h
      simp only [List.lookup, hb, if_neg h]
  | (k, x) :: r => by
    have ih := lookup_putF f g v r
    rw [show putF f v ((k, x) :: r) = (if k = f then (k, v) :: r else (k, x) :: putF f v r) from rfl]
    by_cases hk : k = f
    · rw [if_pos hk]
      by_cases h : g = k
      · have hb : (g == k) = true := beq_iff_eq.mpr h
        simp only [List.lookup, hb, if_pos (h.trans hk)]
      · have hb : (g == k) = false := beq_eq_false_iff_ne.mpr h
        simp only [List.lookup, hb, if_neg (fun e : g = f => h (e.trans hk.symm))]
    · rw [if_neg hk]
      by_cases h : g = k
      · have hb : (g == k) = true := beq_iff_eq.mpr h
        simp only [List.lookup, hb, if_neg (fun e : g = f => hk (h.symm.trans e))]
      · have hb : (g == k) = false := beq_eq_false_iff_ne.mpr h
        simp only [List.lookup, hb]
        exact ih
theorem keys_putF (f : Str) (v : V) : ∀ fs : List (Str × V), f ∈ (putF f v fs).map (·.1) ∧ ∀ g, g ∈ fs.map (·.1) → g ∈ (putF f v fs).map (·.1)
  | [] => ⟨by simp [putF], fun g h => by simp at h⟩
  | (k, x) :: r => by
    obtain ⟨i1, i2⟩ := keys_putF f v r
    rw [show putF f v ((k, x) :: r) = (if k = f then (k, v) :: r else (k, x) :: putF f v r) from rfl]
    by_cases hk : k = f
    · rw [if_pos hk]
      subst hk
      exact ⟨by simp, fun g h => by simpa using h⟩
    · rw [if_neg hk]
      refine ⟨?_, fun g h => ?_⟩
      · rw [List.map_cons]
        exact List.mem_cons_of_mem _ i1
      · rw [List.map_cons] at h ⊢
        rcases List.mem_cons.mp h with e | e
        · exact List.mem_cons.mpr (.inl e)
        · exact List.mem_cons_of_mem _ (i2 g e)
theorem length_putF (f : Str) (v : V) : ∀ fs : List (Str × V), (putF f v fs).length ≤ fs.length + 1
  | [] => by simp [putF]
  | (k, x) :: r => by
    have ih := length_putF f v r
    rw [show putF f v ((k, x) :: r) = (if k = f then (k, v) :: r else (k, x) :: putF f v r) from rfl]
    by_cases hk : k = f
    · rw [if_pos hk, List.length_cons, List.length_cons]; omega
    · rw [if_neg hk, List.length_cons, List.length_cons]; omega

theorem RelO.some_of {v : V} {o : Option Value} (r : RelO (some v) o) : ∃ u, o = some u ∧ RelV v u := by
  cases o with
  | none => exact (show False from r).elim
  | some u => exact ⟨u, rfl, r⟩
theorem RelO.none_of {o : Option Value} (r : RelO none o) : o = none := by
  cases o with
  | none => rfl
  | some u => exact (show False from r).elim
theorem handed_of {v : V} {u : Value} (r : RelV v u) : PySem.W.handedIn u = true := by
  cases v with
  | non => cases (show u = Value.none from r); rfl
  | bl b => cases (show u = Value.bool b from r); rfl
  | int i => obtain ⟨t, e⟩ := (show ∃ t, u = Value.int i t from r); cases e; rfl
  | str x => obtain ⟨t, e⟩ := (show ∃ t, u = Value.str x t from r); cases e; rfl
  | byt b => obtain ⟨t, e⟩ := (show ∃ t, u = Value.bytes b t from r); cases e; rfl
  | flt b => obtain ⟨t, e⟩ := (show ∃ t, u = Value.float b t from r); cases e; rfl
  | ref a => cases (show u = Value.ref a from r); rfl
  | ty n => cases (show u = Value.type n from r); rfl

section
variable {P : Program} {w : World} {H H' : Hp} {h h' : Heap} {a C dx : Addr} {fs fs' : List (Str × V)}
theorem ins_get (hok : HOk P w H h) (e : H a = some (.ins C dx fs)) : ∃ mA, ObjM h a dx C mA ∧ (∀ f, RelO (fs.lookup f) (mA f)) ∧ PySem.Within mA (fs.map (·.1)) ∧ fs.length ≤ 1000 ∧ H dx = some (.own a) := by
  obtain ⟨d, z, ne, ob, mA, n, r, q⟩ := (show ObjOk P w H h a (.ins C dx fs) from hok a _ e)
  exact ⟨mA, ⟨ob, n, ne⟩, r, q, z, d⟩
end

/-! ### what of the text a class must have -/
structure Cls (K : PySem.W.Frag) (C : Addr) : Prop where
  pg : PySem.W.plainGet K C Str.empty = true
  hd : PySem.W.hasDictIn K C = true
  po : PySem.W.plainOver K C = true
  sa : PySem.W.findIn K (.ref C) "__setattr__" = some (some (.builtin "object.__setattr__"))
theorem Cls.get {K : PySem.W.Frag} {C : Addr} (c : Cls K C) (f : Str) : PySem.W.plainGet K C f = true := c.pg
/-- no class of it has the name -/
def NoAttr (K : PySem.W.Frag) (C : Addr) (f : Str) : Prop := PySem.W.findIn K (.ref C) f = some none
theorem NoAttr.taker {K : PySem.W.Frag} {C : Addr} {f : Str} (n : NoAttr K C f) : PySem.W.takerIn K C f = some none := by
  unfold PySem.W.takerIn
  rw [show PySem.W.findIn K (.ref C) f = some none from n]
  rfl
/-- a constant of the class -/
structure Con (K : PySem.W.Frag) (C : Addr) (f : Str) (v : V) (u : Value) : Prop where
  at_ : PySem.W.findIn K (.ref C) f = some (some u)
  rel : RelV v u
  get : PySem.W.specialIn K u "__get__" = some none
  cp : PySem.W.copiedNames.contains f = false
/-- a method: a plain def of the class or of one above it -/
structure Meth (K : PySem.W.Frag) (C : Addr) (m : Str) (f : Addr) : Prop where
  at_ : PySem.W.findIn K (.ref C) m = some (some (.ref f))
  fn : PySem.W.isFn K (.ref f) = true
  kp : PySem.W.keepIn K (.ref f) = true

section
variable {X : Cx} {pins : List (Addr × Obj)} {σ : St} {H : Hp} {s : Shared} {a C dx : Addr} {fs : List (Str × V)} {f : Str} {v : V} {A : Around} {E : Value → Shared → Prop}

theorem getattr_ok {b : Bool} {Q : Value → Shared → Prop} (I : Inv X pins σ H s) (e : H a = some (.ins C dx fs)) (c : Cls X.K C) (n : NoAttr X.K C f) (l : fs.lookup f = some v)
    (h : ∀ u s', Inv X pins σ H s' → RelV v u → Q u s') : wpAny (model X.prog X.w) A (getAttr (.ref a) f b) Q E s := by
  obtain ⟨mA, O, r, _, _, _⟩ := ins_get I.hok e
  obtain ⟨u, hu, ru⟩ := RelO.some_of (v := v) (o := mA f) (by rw [← l]; exact r f)
  exact get_map I.kIn O (c.get f) c.hd n hu (handed_of ru) (h u _ (I.tok _) ru)

theorem getcon_ok {b : Bool} {u : Value} {Q : Value → Shared → Prop} (I : Inv X pins σ H s) (e : H a = some (.ins C dx fs)) (c : Cls X.K C) (k : Con X.K C f v u) (l : fs.lookup f = none)
    (h : ∀ s', Inv X pins σ H s' → Q u s') : wpAny (model X.prog X.w) A (getAttr (.ref a) f b) Q E s := by
  obtain ⟨mA, O, r, _, _, _⟩ := ins_get I.hok e
  have hn : mA f = none := RelO.none_of (by rw [← l]; exact r f)
  exact get_const I.kIn O (c.get f) c.hd k.at_ k.get k.cp hn (handed_of k.rel) (h _ (I.tok _))

theorem getmeth_ok {m : Str} {g : Addr} {pl : Sem Bool} {Q : Value × List Value → Shared → Prop} (I : Inv X pins σ H s) (e : H a = some (.ins C dx fs)) (c : Cls X.K C) (k : Meth X.K C m g) (l : fs.lookup m = none)
    (h : Q (.ref g, [.ref a]) s) : wpAny (model X.prog X.w) A (getMethod (.ref a) m pl) Q E s := by
  obtain ⟨mA, O, r, _, _, _⟩ := ins_get I.hok e
  have hn : mA m = none := RelO.none_of (by rw [← l]; exact r m)
  exact get_meth I.kIn O (c.get m) k.at_ k.fn hn h

theorem setattr_ok {y : V} {u : Value} {Q : Unit → Shared → Prop} (I : Inv X pins σ H s) (e : H a = some (.ins C dx fs)) (c : Cls X.K C) (n : NoAttr X.K C f) (hl : fs.length < 1000) (ry : RelV y u)
    (h : ∀ s', Inv X pins σ (upd H a (.ins C dx (putF f y fs))) s' → Q () s') : wpAny (model X.prog X.w) A (setAttr (.ref a) f u) Q E s := by
  obtain ⟨mA, O, r, wi, _, ho⟩ := ins_get I.hok e
  have hz : (fs.map (·.1)).length ≤ sizeLine := by rw [List.length_map, sizeLine_eq]; omega
  refine set_map I.kIn O c.sa c.po n.taker c.hd wi hz fun h' O' sb => h _ ?_
  have hd : ∃ o, h'.get? dx = some o := let ⟨o, _, _, e', _⟩ := O'.ns; ⟨o, e'⟩
  refine I.write (x := a) (e := dx) (by rw [e]; exact True.intro) (.inr ho) (fun b q hb z => (sb.2 b hb).trans z) hd ?_
  refine ⟨by rw [upd_ne O.ne]; exact ho, ?_, O.ne, O'.obj, _, O'.ns, fun g => ?_, fun g hg => ?_⟩
  · have := length_putF f y fs; omega
  · show RelO ((putF f y fs).lookup g) (if g = f then some u else mA g)
    rw [lookup_putF]
    by_cases q : g = f
    · rw [if_pos q, if_pos q]; exact ry
    · rw [if_neg q, if_neg q]; exact r g
  · by_cases q : g = f
    · rw [q]; exact (keys_putF f y fs).1
    · refine (keys_putF f y fs).2 g (wi g fun z => hg ?_)
      show (if g = f then some u else mA g) = none
      rw [if_neg q]; exact z

/-- a new instance, tracked, without attributes -/
theorem Inv.made (I : Inv X pins σ H s) : Inv X pins σ (upd (upd H s.heap.objs.size (.own (s.heap.objs.size + 1))) (s.heap.objs.size + 1) (.ins C s.heap.objs.size []))
    { s with heap := (s.heap.push PySem.W.emptyDict).push (PySem.W.instObj C s.heap.objs.size) } := by
  have e1 : (s.heap.push PySem.W.emptyDict).get? s.heap.objs.size = some PySem.W.emptyDict := Heap.get?_push_size s.heap rfl
  have e2 : ((s.heap.push PySem.W.emptyDict).push (PySem.W.instObj C s.heap.objs.size)).get? (s.heap.objs.size + 1) = some (PySem.W.instObj C s.heap.objs.size) := by
    have := Heap.get?_push_size (s.heap.push PySem.W.emptyDict) (o := PySem.W.instObj C s.heap.objs.size) rfl
    rwa [Heap.size_push] at this
  have e3 : (s.heap.push PySem.W.emptyDict).Ns s.heap.objs.size (fun _ => none) := ⟨PySem.W.emptyDict, #[], _, e1, rfl, (fun e he => absurd he (by simp)), fun _ => rfl⟩
  have I1 := I.laid (a := s.heap.objs.size) (o := .own (s.heap.objs.size + 1)) (h' := s.heap.push PySem.W.emptyDict) (t' := s.toks) (fun b u q => Heap.get?_push_of_some _ q) (Nat.le_refl _) ⟨_, e1⟩
  refine I1.laid (a := s.heap.objs.size + 1) (o := .ins C s.heap.objs.size []) (t' := s.toks) (fun b u q => Heap.get?_push_of_some _ q) (Nat.le_of_eq (Heap.size_push _ _)) ?_
  have ne : s.heap.objs.size ≠ s.heap.objs.size + 1 := Nat.ne_of_lt (Nat.lt_succ_self _)
  refine ⟨by rw [upd_ne ne, upd_same], Nat.zero_le _, ne, e2, fun _ => none, (Heap.Ns1.of_empty e3).at fun o q => Heap.get?_push_of_some _ q, fun _ => True.intro, fun y hy => absurd rfl hy⟩

/-- e.f where nothing but the object is asked: through attributeBase (super) and the last hold -/
theorem attr_of {prog : Program} {w : World} {env : Env} {e : Expr} {f : Str} {pos : Pos} {s : Shared} {Q : Value → Shared → Prop} (hb : attributeBase e f env (eval e env) = eval e env)
    (h : wpAny (model prog w) A (eval e env) (fun o s₁ => wpAny (model prog w) A (getAttr o f true) Q E s₁) E s) : wpAny (model prog w) A (eval (.Attribute e f pos) env) Q E s :=
  Attribute_any_ h (by rw [arm_eval_Attribute, hb])
end

/-! ### readings and rules -/
/-- e.f, an attribute of the instance -/
def tFld (K : PySem.W.Frag) (ta : TE) (f : Str) : TE := fun σ H Q => ta σ H fun x H1 => ∃ a C dx fs v, x = .ref a ∧ H1 a = some (.ins C dx fs) ∧ Cls K C ∧ NoAttr K C f ∧ fs.lookup f = some v ∧ Q v H1
/-- e.f, a constant of the class -/
def tCon (K : PySem.W.Frag) (ta : TE) (f : Str) : TE := fun σ H Q => ta σ H fun x H1 => ∃ a C dx fs v u, x = .ref a ∧ H1 a = some (.ins C dx fs) ∧ Cls K C ∧ Con K C f v u ∧ fs.lookup f = none ∧ Q v H1
/-- e.f = value -/
def sFld (K : PySem.W.Frag) (ta tv : TE) (f : Str) : TS := fun D σ H => tv σ H fun y H1 => ta σ H1 fun x H2 => ∃ a C dx fs, x = .ref a ∧ H2 a = some (.ins C dx fs) ∧ Cls K C ∧ NoAttr K C f ∧ fs.length < 1000 ∧
  D.nx σ (upd H2 a (.ins C dx (putF f y fs)))
/-- an augmented operator on two values -/
def InOp (X : Cx) (op : Operator) (rd : V → V → Hp → VK → Prop) : Prop :=
  ∀ (pins : List (Addr × Obj)) (s : Shared) (σ : St) (H : Hp) (x y : V) (u v : Value) (Q : VK), Inv X pins σ H s → RelV x u → RelV y v → rd x y H Q → wpAny (model X.prog X.w) X.A (inplaceOp op u v) (EP X pins σ Q) X.xe s
/-- e.f op= value -/
def sFldAug (K : PySem.W.Frag) (ta tv : TE) (rd : V → V → Hp → VK → Prop) (f : Str) : TS := fun D σ H => ta σ H fun x H1 => ∃ a C dx fs v, x = .ref a ∧ H1 a = some (.ins C dx fs) ∧ Cls K C ∧ NoAttr K C f ∧ fs.lookup f = some v ∧
  tv σ H1 fun y H2 => rd v y H2 fun z H3 => ∃ dx' fs', H3 a = some (.ins C dx' fs') ∧ fs'.length < 1000 ∧ D.nx σ (upd H3 a (.ins C dx' (putF f z fs')))

section
variable {X : Cx} {o e value : Expr} {f : Str} {pos pos' tpos : Pos} {ta tv : TE}
theorem pe_fld (he : PE X e ta) (hb : attributeBase e f X.env (eval e X.env) = eval e X.env) : PE X (.Attribute e f pos) (tFld X.K ta f) := by
  intro pins s σ H Q I h
  refine attr_of hb (thn (he pins s σ H _ I h) fun u s1 ⟨x, H1, I1, rx, a, C, dx, fs, v, ex, ea, c, n, l, q⟩ => ?_)
  subst ex
  obtain rfl : u = Value.ref a := rx
  exact getattr_ok I1 ea c n l fun u' s2 I2 ru => ⟨v, H1, I2, ru, q⟩
theorem pe_con (he : PE X e ta) (hb : attributeBase e f X.env (eval e X.env) = eval e X.env) : PE X (.Attribute e f pos) (tCon X.K ta f) := by
  intro pins s σ H Q I h
  refine attr_of hb (thn (he pins s σ H _ I h) fun u s1 ⟨x, H1, I1, rx, a, C, dx, fs, v, u0, ex, ea, c, k, l, q⟩ => ?_)
  subst ex
  obtain rfl : u = Value.ref a := rx
  exact getcon_ok I1 ea c k l fun s2 I2 => ⟨v, H1, I2, k.rel, q⟩
theorem ps_fld (ha : PE X o ta) (hv : PE X value tv) (hs : swapsWith value (some (.Attribute o f pos')) pos.line X.env = pure false) : PS X (.Assign [.Attribute o f pos'] value pos) (sFld X.K ta tv f) := by
  intro pins s σ H D I h
  refine plainObj_wpAny_Assign_Attribute (thn (hv pins s σ H _ I h) fun u s1 ⟨y, H1, I1, ry, q⟩ => thn (ha pins s1 σ H1 _ I1 q) fun ov s2 ⟨x, H2, I2, rx, a, C, dx, fs, ex, ea, c, n, l, q2⟩ => ?_) hs
  subst ex
  obtain rfl : ov = Value.ref a := rx
  exact setattr_ok I2 ea c n l ry fun s3 I3 => ⟨σ, _, I3, q2⟩
theorem ps_fldaug {op : Operator} {rd : V → V → Hp → VK → Prop} (ha : PE X o ta) (hv : PE X value tv) (hop : InOp X op rd) : PS X (.AugAssign (.Attribute o f tpos) op value pos) (sFldAug X.K ta tv rd f) := by
  intro pins s σ H D I h
  refine wpAny_AugAssign_AttributeAny (thn (ha pins s σ H _ I h) fun ov s1 ⟨x, H1, I1, rx, a, C, dx, fs, v, ex, ea, c, n, l, q⟩ => ?_)
  subst ex
  obtain rfl : ov = Value.ref a := rx
  refine getattr_ok I1 ea c n l fun u s2 I2 ru => thn (hv pins s2 σ H1 _ I2 q) fun w3 s3 ⟨y, H2, I3, ry, q3⟩ => thn (hop pins s3 σ H2 v y u w3 _ I3 ru ry q3) fun w4 s4 ⟨z, H3, I4, rz, dx', fs', ea', l', q4⟩ => ?_
  exact setattr_ok I4 ea' c n l' rz fun s5 I5 => ⟨σ, _, I5, q4⟩
def rAdd : V → V → Hp → VK → Prop := fun x y H Q => ∃ i j, x = .int i ∧ y = .int j ∧ Q (.int (i + j)) H
def rSub : V → V → Hp → VK → Prop := fun x y H Q => ∃ i j, x = .int i ∧ y = .int j ∧ Q (.int (i - j)) H
theorem in_add : InOp X .Add rAdd := by
  rintro pins s σ H x y u v Q I rx ry ⟨i, j, rfl, rfl, q⟩
  obtain ⟨t, rfl⟩ := (show ∃ t, u = Value.int i t from rx)
  obtain ⟨t', rfl⟩ := (show ∃ t', v = Value.int j t' from ry)
  exact PyProof.Rows.iadd_int ⟨.int (i + j), H, I.tok _, ⟨_, rfl⟩, q⟩
theorem in_sub : InOp X .Sub rSub := by
  rintro pins s σ H x y u v Q I rx ry ⟨i, j, rfl, rfl, q⟩
  obtain ⟨t, rfl⟩ := (show ∃ t, u = Value.int i t from rx)
  obtain ⟨t', rfl⟩ := (show ∃ t', v = Value.int j t' from ry)
  exact PyProof.Rows.isub_int ⟨.int (i - j), H, I.tok _, ⟨_, rfl⟩, q⟩

/-- what is between an instance and its method: the tree of a method call -/
theorem methcall_of {pl : Sem Bool} {m : Str} {apos : Pos} {args : List Expr} {pins : List (Addr × Obj)} {s : Shared} {σ : St} {H : Hp} {Q : Value → Shared → Prop} {te : TE} (he : PE X e te) (I : Inv X pins σ H s)
    (h : te σ H fun x H1 => ∃ a C dx fs g, x = .ref a ∧ H1 a = some (.ins C dx fs) ∧ Cls X.K C ∧ Meth X.K C m g ∧ fs.lookup m = none ∧
      ∀ s1, Inv X pins σ H1 s1 → wpAny (model X.prog X.w) X.A (callWith pos (.ref g) [.ref a] (backTo pos (starEach args X.env)) (backToKw pos (keywordEach [] X.env))) Q X.xe s1)
    (ht : eval (.Call (.Attribute e m apos) args [] pos) X.env = (do
      let ov ← eval e X.env
      standAt apos.atName
      let (f, first) ← holding [ov] (getMethod ov m pl)
      callWith pos f first (backTo pos (starEach args X.env)) (backToKw pos (keywordEach [] X.env)))) :
    wpAny (model X.prog X.w) X.A (eval (.Call (.Attribute e m apos) args [] pos) X.env) Q X.xe s := by
  refine PySem.W.methodCall_KW (pl := pl) (thn (he pins s σ H _ I h) fun u s1 ⟨x, H1, I1, rx, a, C, dx, fs, g, ex, ea, c, k, l, q⟩ => ?_) ht
  subst ex
  obtain rfl : u = Value.ref a := rx
  exact getmeth_ok I1 ea c k l (q s1 I1)
end

/-! ### isinstance -/
section
variable {X : Cx} {pins : List (Addr × Obj)} {σ : St} {H : Hp} {s : Shared} {A : Around} {E : Value → Shared → Prop} {Q : Value → Shared → Prop} {c : Value} {b : Bool}
/-- the type of a value, as the fragment's deciders take it; for an instance its class -/
inductive TyOf (K : PySem.W.Frag) (H : Hp) : V → Value → Prop where
  | non : TyOf K H .non (.type "NoneType")
  | bl (x : Bool) : TyOf K H (.bl x) (.type "bool")
  | int (i : Int) : TyOf K H (.int i) (.type "int")
  | str (x : Str) : TyOf K H (.str x) (.type "str")
  | flt (x : UInt64) : TyOf K H (.flt x) (.type "float")
  | lst {a : Addr} {xs : List V} (e : H a = some (.lst xs)) : TyOf K H (.ref a) (.type "list")
  | frz {a : Addr} {o : Obj} {xs : List V} (e : H a = some (.frz o (.lst xs))) : TyOf K H (.ref a) (.type "list")
  | tup {a : Addr} {xs : List V} (e : H a = some (.tup xs)) : TyOf K H (.ref a) (.type "tuple")
  | dK {a : Addr} {kvs : List (Key × V)} (e : H a = some (.dK kvs)) : TyOf K H (.ref a) (.type "dict")
  | dT {a : Addr} {kvs : List (List Key × V)} (e : H a = some (.dT kvs)) : TyOf K H (.ref a) (.type "dict")
  | ins {a C dx : Addr} {fs : List (Str × V)} (e : H a = some (.ins C dx fs)) (cl : Cls K C) (ha : PySem.W.findIn K (.ref C) "__class__" = some (some (.builtin "object.__class__")))
      (hn : PySem.W.specialIn K (.builtin "object.__class__") "__get__" = some (some (.builtin "getset_descriptor.__get__"))) (htk : PySem.W.takesIn K (.builtin "object.__class__") = some true)
      (hm : PySem.W.mroIn K C (.type "object") = some true) : TyOf K H (.ref a) (.ref C)
/-- isinstance(x, c) for one class c, a built-in or an own one: kitOne's answer -/
theorem isinst_ok {x : V} {u t : Value} (I : Inv X pins σ H s) (rx : RelV x u) (ty : TyOf X.K H x t) (e : PySem.W.kitOne X.K t c = some b) (h : ∀ tk, Q (.bool b) { s with toks := tk }) :
    wpAny (model X.prog X.w) A (call (.builtin "isinstance") [u, c]) Q E s := by
  cases ty with
  | non => cases (show u = Value.none from rx); exact PySem.W.kia_one PySem.W.kitx_none I.kIn True.intro e (fun z => nomatch z) h
  | bl y => cases (show u = Value.bool y from rx); exact PySem.W.kia_one PySem.W.kitx_bool I.kIn True.intro e (fun z => nomatch z) h
  | int i => obtain ⟨t, q⟩ := (show ∃ t, u = Value.int i t from rx); cases q; exact PySem.W.kia_one PySem.W.kitx_int I.kIn True.intro e (fun z => nomatch z) h
  | str y => obtain ⟨t, q⟩ := (show ∃ t, u = Value.str y t from rx); cases q; exact PySem.W.kia_one PySem.W.kitx_str I.kIn True.intro e (fun z => nomatch z) h
  | flt y => obtain ⟨t, q⟩ := (show ∃ t, u = Value.float y t from rx); cases q; exact PySem.W.kia_one PySem.W.kitx_float I.kIn True.intro e (fun z => nomatch z) h
  | @lst a xs ea =>
    cases (show u = Value.ref a from rx)
    obtain ⟨_, _, n, _, h1⟩ := (show ObjOk X.prog X.w H s.heap a (.lst xs) from I.hok a _ ea)
    exact PySem.W.kia_one PySem.W.kitx_list I.kIn ⟨_, h1, rfl⟩ e (fun z => nomatch z) h
  | @frz a ob xs ea =>
    cases (show u = Value.ref a from rx)
    obtain ⟨_, _, _, n, _, h1⟩ := (show ObjOk X.prog X.w H s.heap a (.frz ob (.lst xs)) from I.hok a _ ea)
    exact PySem.W.kia_one PySem.W.kitx_list I.kIn ⟨_, h1, rfl⟩ e (fun z => nomatch z) h
  | @tup a xs ea =>
    cases (show u = Value.ref a from rx)
    obtain ⟨_, _, _, p⟩ := (show ObjOk X.prog X.w H s.heap a (.tup xs) from I.hok a _ ea)
    obtain ⟨o, h1, h2, _⟩ := p.1
    exact PySem.W.kia_one PySem.W.kitx_tuple I.kIn ⟨o, h1, h2⟩ e (fun z => nomatch z) h
  | @dK a kvs ea =>
    cases (show u = Value.ref a from rx)
    obtain ⟨_, _, vs, _, p⟩ := (show ObjOk X.prog X.w H s.heap a (.dK kvs) from I.hok a _ ea)
    obtain ⟨o, es, ep, h1, h2, _⟩ := p
    exact PySem.W.kia_one PySem.W.kitx_dict I.kIn ⟨o, h1, h2.1⟩ e (fun z => nomatch z) h
  | @dT a kvs ea =>
    cases (show u = Value.ref a from rx)
    obtain ⟨_, _, xs, _, o, es, ep, h1, h2, _⟩ := (show ObjOk X.prog X.w H s.heap a (.dT kvs) from I.hok a _ ea)
    exact PySem.W.kia_one PySem.W.kitx_dict I.kIn ⟨o, h1, h2.1⟩ e (fun z => nomatch z) h
  | @ins a C dx fs ea cl ha hn htk hm =>
    cases (show u = Value.ref a from rx)
    obtain ⟨mA, O, _⟩ := ins_get I.hok ea
    obtain ⟨od, J, _⟩ := O.look
    exact PySem.W.kia_one (PySem.W.kitx_own (cl.get _) cl.hd ha hn htk hm) I.kIn J e (fun z => nomatch z) h
end
end L2

namespace L2
open PySem PySem.Spec PyProof.Rows

/-! ### room -/
structure Room (k : Nat) (A : Around) : Prop where
  hd : A.handled = none
  dp : A.depth + 3 * k + 5 < recursionLimit
  un : A.units + 16 * k + 200 < cLine
theorem Room.mono {j k : Nat} {A : Around} (r : Room k A) (h : j ≤ k) : Room j A := ⟨r.hd, by have := r.dp; omega, by have := r.un; omega⟩
theorem Room.deeper {k : Nat} {A : Around} (r : Room (k + 1) A) (env : Env) : Room k (A.deeper env) :=
  ⟨r.hd, by have := r.dp; show A.depth + 1 + 3 * k + 5 < _; omega, by have := r.un; show A.units + 3 + 16 * k + 200 < _; omega⟩
theorem Room.in1 {k : Nat} {A : Around} (r : Room (k + 1) A) : Room k A.in1 :=
  ⟨r.hd, by have := r.dp; show A.depth + 3 * k + 5 < _; omega, by have := r.un; show A.units + 1 + 16 * k + 200 < _; omega⟩
theorem make_depth {A : Around} {C : Addr} {us : List Value} {kw : List (Str × Value)} : (A.under (.builtin "type.__call__" ⟨.ref C :: us, kw⟩)).depth = A.depth + 1 := by
  first | rfl | simp [Around.under, Code.weight, Code.isCreation, Code.isGuard, Code.isCaller, Code.frames, Code.isFrame, guardIds]
theorem make_units {A : Around} {C : Addr} {us : List Value} {kw : List (Str × Value)} : (A.under (.builtin "type.__call__" ⟨.ref C :: us, kw⟩)).units = A.units + 1 := by
  first | rfl | simp [Around.under, Code.cUnits, Code.frames, Code.isFrame]
theorem Room.make {k : Nat} {A : Around} (r : Room (k + 1) A) (C : Addr) (us : List Value) (kw : List (Str × Value)) : Room k (A.under (.builtin "type.__call__" ⟨.ref C :: us, kw⟩)) :=
  ⟨r.hd, by have := r.dp; rw [make_depth]; omega, by have := r.un; rw [make_units]; omega⟩
theorem Room.depth {k : Nat} {A : Around} (r : Room k A) : A.depth < recursionLimit := by have := r.dp; omega
theorem Room.units {k : Nat} {A : Around} (r : Room k A) : A.units + 64 < cLine := by have := r.un; omega
theorem Room.units0 {k : Nat} {A : Around} (r : Room k A) : A.units < cLine := by have := r.un; omega

/-! ### argument lists and displays -/
def tNil : TA := fun _ H Q => Q [] H
def tCons (ta : TE) (tr : TA) : TA := fun σ H Q => ta σ H fun x H1 => tr σ H1 fun xs H2 => Q (x :: xs) H2
section
variable {X : Cx} {e : Expr} {es : List Expr} {te : TE} {t : TA} {pos : Pos}
theorem pa_nil : PA X [] tNil := fun _ _ _ _ H Q I h => Calls.spliced_nil ⟨[], H, I, .nil, h⟩
theorem pa_cons (ha : PE X e te) (hr : PA X es t) (hs : starEach (e :: es) X.env = (false, eval e X.env) :: starEach es X.env := by rfl) : PA X (e :: es) (tCons te t) := by
  intro pos pins s σ H Q I h
  rw [hs]
  show wpAny _ _ (spliced ((false, eval e X.env) :: backTo pos (starEach es X.env))) _ _ s
  refine Calls.spliced_cons (thn (ha pins s σ H _ I h) fun u s1 ⟨x, H1, I1, r1, q1⟩ => ?_)
  exact thn (hr pos pins s1 σ H1 _ I1 q1) fun us s2 ⟨xs, H2, I2, r2, q2⟩ => ⟨x :: xs, H2, I2, .cons r1 r2, q2⟩

/-- a tuple, a list of written items -/
def tTup (t : TA) : TE := fun σ H Q => t σ H fun xs H1 => xs.length ≤ sizeLine ∧ ∀ p, H1 p = none → Q (.ref p) (upd H1 p (.tup xs))
def tLst (t : TA) : TE := fun σ H Q => t σ H fun xs H1 => xs.length ≤ sizeLine ∧ ∀ p, H1 p = none → Q (.ref p) (upd H1 p (.lst xs))
theorem pe_tup {x1} (h : PA X es t) : PE X (.Tuple es x1 pos) (tTup t) := by
  intro pins s σ H Q I hq
  refine wpAny_Tuple_spliced (thn (h pos pins s σ H _ I hq) fun us s1 ⟨xs, H1, I1, r, z, q⟩ => ⟨by rw [← r.length]; exact z, ?_⟩)
  have hf : H1 s1.heap.objs.size = none := I1.hok.fresh (Nat.le_refl _)
  refine ⟨.ref s1.heap.objs.size, upd H1 s1.heap.objs.size (.tup xs), I1.laid (t' := s1.toks) (fun b u e => Heap.get?_push_of_some _ e) (Nat.le_refl _) ?_, rfl, q _ hf⟩
  exact ⟨z, us, r, ⟨_, Heap.get?_push_size _ rfl, rfl, _, rfl⟩, _, Heap.get?_push_size _ rfl, rfl⟩
theorem pe_lst (h : PA X es t) : PE X (.List es pos) (tLst t) := by
  intro pins s σ H Q I hq
  refine wpAny_List_spliced (thn (h pos pins s σ H _ I hq) fun us s1 ⟨xs, H1, I1, r, z, q⟩ => ⟨by rw [← r.length]; exact z, ?_⟩)
  have hf : H1 s1.heap.objs.size = none := I1.hok.fresh (Nat.le_refl _)
  refine ⟨.ref s1.heap.objs.size, upd H1 s1.heap.objs.size (.lst xs), I1.laid (t' := s1.toks) (fun b u e => Heap.get?_push_of_some _ e) (Nat.le_refl _) ?_, rfl, q _ hf⟩
  exact ⟨z, us, 0, r, Heap.get?_push_size _ rfl⟩
end

/-! ### what a def promises -/
/-- a def's promise: the bound arguments in the parameters' order, the heap, the wanted end, the wanted exception -/
abbrev Sp := List V → Hp → VK → XK → Prop
/-- how an exception lies behind a call (file 08 gives it): the callers' frames, abstract heap and state ahead of the call, the wish, the exception, the state -/
abbrev CXT := List Env → Hp → Shared → XK → Value → Shared → Prop

/-- the state at a call -/
structure Env0 (P : Program) (w : World) (K : PySem.W.Frag) (mg : Str → Option Value) (base : Heap) (A : Around) (outer : List Env) (s : Shared) (H : Hp) : Prop where
  frames : A.frames = some outer
  mod : Mod K mg base
  bs : ∀ b o, base.get? b = some o → s.heap.get? b = some o ∧ H b = none
  bsz : base.objs.size ≤ s.heap.objs.size
  funs : s.heap.FunFrames base outer
  frf : ∀ b ∈ frs outer, H b = none
  hok : HOk P w H s.heap
  bare : AllBare s.gens
/-- a call's end -/
def CE (outer : List Env) (P : Program) (w : World) (H : Hp) (s : Shared) (Q : VK) (u : Value) (s' : Shared) : Prop :=
  ∃ v H', s'.os = s.os ∧ AllBare s'.gens ∧ Un (frs outer) [] H H' s.heap s'.heap ∧ HOk P w H' s'.heap ∧ RelV v u ∧ Q v H'
def CR (CX : CXT) (outer : List Env) (P : Program) (w : World) (H : Hp) (s : Shared) (Q : VK) (E : XK) (r : Result) (s' : Shared) : Prop :=
  match r with
  | .ok (.ret u) => CE outer P w H s Q u s'
  | .ok _ => False
  | .error e => CX outer H s E e s'
structure FnOk (P : Program) (w : World) (K : PySem.W.Frag) (mg : Str → Option Value) (base : Heap) (CX : CXT) (k : Nat) (f : Addr) (fd : FuncData) (ps : List Str) (sp : Sp) : Prop where
  len : ∀ vs H Q E, sp vs H Q E → vs.length = ps.length
  run : ∀ (A : Around) (outer : List Env) (s : Shared) (H : Hp) (args : Args) (us : List Value) (vs : List V) (Q : VK) (E : XK), Room k A → Env0 P w K mg base A outer s H → BindsTo s fd args (ps.zip us) → Vals vs us → sp vs H Q E →
    codeAny (model P w) A (.call (.ref f) args) (CR CX outer P w H s Q E) s
theorem FnOk.mono {P : Program} {w : World} {K : PySem.W.Frag} {mg : Str → Option Value} {base : Heap} {CX : CXT} {j k : Nat} {f : Addr} {fd : FuncData} {ps : List Str} {sp : Sp} (F : FnOk P w K mg base CX j f fd ps sp) (h : j ≤ k) :
    FnOk P w K mg base CX k f fd ps sp := ⟨F.len, fun A outer s H args us vs Q E hr => F.run A outer s H args us vs Q E (hr.mono h)⟩
/-- a weaker promise -/
theorem FnOk.imp {P : Program} {w : World} {K : PySem.W.Frag} {mg : Str → Option Value} {base : Heap} {CX : CXT} {k : Nat} {f : Addr} {fd : FuncData} {ps : List Str} {sp sp' : Sp} (F : FnOk P w K mg base CX k f fd ps sp)
    (h : ∀ vs H Q E, sp' vs H Q E → sp vs H Q E) : FnOk P w K mg base CX k f fd ps sp' :=
  ⟨fun vs H Q E q => F.len vs H Q E (h _ _ _ _ q), fun A outer s H args us vs Q E hr he hb hv hs => F.run A outer s H args us vs Q E hr he hb hv (h _ _ _ _ hs)⟩

theorem Env0.make {P : Program} {w : World} {K : PySem.W.Frag} {mg : Str → Option Value} {base : Heap} {A : Around} {outer : List Env} {s : Shared} {H : Hp} (e : Env0 P w K mg base A outer s H) (C : Addr) (us : List Value) (kw : List (Str × Value)) :
    Env0 P w K mg base (A.under (.builtin "type.__call__" ⟨.ref C :: us, kw⟩)) outer s H := ⟨by first | exact e.frames | (simpa [Around.under, Code.envs, Code.isFrame, pushEnvs] using e.frames), e.mod, e.bs, e.bsz, e.funs, e.frf, e.hok, e.bare⟩
theorem Env0.in1 {P : Program} {w : World} {K : PySem.W.Frag} {mg : Str → Option Value} {base : Heap} {A : Around} {outer : List Env} {s : Shared} {H : Hp} (e : Env0 P w K mg base A outer s H) :
    Env0 P w K mg base A.in1 outer s H := ⟨e.frames, e.mod, e.bs, e.bsz, e.funs, e.frf, e.hok, e.bare⟩

section
variable {X : Cx} {pins : List (Addr × Obj)} {σ : St} {H : Hp} {s s' : Shared}
/-- from a body: what a callee wants -/
theorem Inv.env0 (I : Inv X pins σ H s) : Env0 X.prog X.w X.K X.mg X.base X.A X.stack s H :=
  ⟨I.ok.frames, I.ok.mod, I.bs, Nat.le_trans I.ok.bsz I.sz, I.stack, I.stkFree, I.hok, I.bare⟩
/-- behind a call -/
theorem Inv.after {Q : VK} {u : Value} (I : Inv X pins σ H s) (h : CE X.stack X.prog X.w H s Q u s') : EP X pins σ Q u s' := by
  obtain ⟨v, H', os, bare, un, hok, r, q⟩ := h
  obtain ⟨hh, g, d, t, os'⟩ := s'
  obtain rfl : os' = s.os := os
  exact ⟨v, H', I.call (h' := hh) (g' := g) (d' := d) (t' := t) (ch := []) un hok bare (fun b z => absurd z (by simp)), r, q⟩
end

/-! ### calls -/
/-- f(..): the written arguments, then the defaults dvs; E: what is wanted of an exception -/
def tCall (sp : Sp) (dvs : List V) (E : XK) (t : TA) : TE := fun σ H Q => t σ H fun vs H1 => sp (vs ++ dvs) H1 Q E
/-- o.m(..) of an instance of the class at C -/
def tMeth (C : Addr) (m : Str) (sp : Sp) (dvs : List V) (E : XK) (ta : TE) (t : TA) : TE := fun σ H Q => ta σ H fun x H1 => ∃ a dx fs, x = .ref a ∧ H1 a = some (.ins C dx fs) ∧ fs.lookup m = none ∧
  t σ H1 fun vs H2 => sp (x :: (vs ++ dvs)) H2 Q E
/-- C(..): a new instance and its dict, then __init__ -/
def tMake (C : Addr) (sp : Sp) (dvs : List V) (E : XK) (t : TA) : TE := fun σ H Q => t σ H fun vs H1 => ∀ x dx, H1 x = none → H1 dx = none → dx ≠ x →
  sp (.ref x :: (vs ++ dvs)) (upd (upd H1 dx (.own x)) x (.ins C dx [])) (fun v H2 => v = .non ∧ Q (.ref x) H2) E

/-- how the parameters are bound: us the positional arguments, kw the keywords' values by name, ds the defaults that fill up -/
def Binds (K : PySem.W.Frag) (fd : FuncData) (ps : List Str) (ds : List Value) : Prop :=
  ∀ (s : Shared) (us : List Value), K.In s.heap → (us ++ ds).length = ps.length → BindsTo s fd ⟨us, []⟩ (ps.zip (us ++ ds))
/-- every parameter is given -/
theorem Binds.all {K : PySem.W.Frag} {fd : FuncData} {ps : List Str} (h : ∀ us : List Value, us.length = ps.length → bindArgs fd ⟨us, []⟩ = pure (ps.zip us)) : Binds K fd ps [] := fun s us _ hl => by
  rw [List.append_nil] at hl ⊢
  exact .of_eq (h us hl)

/-- an exception of a callee reaches what this body wants of exceptions -/
def Passes (CX : CXT) (X : Cx) (E : XK) : Prop := ∀ (pins : List (Addr × Obj)) (σ : St) (H : Hp) (s : Shared) (e : Value) (s' : Shared), Inv X pins σ H s → CX X.stack H s E e s' → X.xe e s'

section
variable {X : Cx} {CX : CXT} {k : Nat} {f C : Addr} {fd : FuncData} {ps : List Str} {sp : Sp} {dvs : List V} {ds : List Value} {E : XK} {x m : Str} {p pos apos : Pos} {e o : Expr} {es : List Expr} {ta : TE} {t : TA}

/-- the callee runs -/
theorem run_fn {pins : List (Addr × Obj)} {σ : St} {H : Hp} {s : Shared} {Q : VK} {us : List Value} {vs : List V} (F : FnOk X.prog X.w X.K X.mg X.base CX k f fd ps sp) (hr : Room k X.A) (hb : Binds X.K fd ps ds) (hd : Vals dvs ds) (hx : Passes CX X E)
    (I : Inv X pins σ H s) (r : Vals vs us) (h : sp (vs ++ dvs) H Q E) : wpAny (model X.prog X.w) X.A (call (.ref f) us) (EP X pins σ Q) X.xe s := by
  have r2 : Vals (vs ++ dvs) (us ++ ds) := r.append hd
  have hl : (us ++ ds).length = ps.length := by rw [← r2.length]; exact F.len _ _ _ _ h
  refine wpAny_call (codeAny_mono (F.run X.A X.stack s H ⟨us, []⟩ (us ++ ds) (vs ++ dvs) Q E hr I.env0 (hb s us I.kIn hl) r2 h) fun r s' hq => ?_)
  cases r with
  | error e => exact hx pins σ H s e s' I hq
  | ok fl =>
    cases fl with
    | ret u => exact I.after hq
    | next => exact False.elim hq
    | brk => exact False.elim hq
    | cont => exact False.elim hq

theorem pe_call (F : FnOk X.prog X.w X.K X.mg X.base CX k f fd ps sp) (hr : Room k X.A) (hg : Gl X x) (hm : X.mg x = some (.ref f)) (hk : PySem.W.keepIn X.K (.ref f) = true) (hb : Binds X.K fd ps ds) (hd : Vals dvs ds) (hx : Passes CX X E)
    (ha : PA X (e :: es) t) (hdb : (x == ("__debug__" : Str)) = false := by decide) (he : starEach (e :: es) X.env = (false, eval e X.env) :: starEach es X.env := by rfl) (hpl : (backTo pos (starEach es X.env)).any (·.1) = false := by rfl) :
    PE X (.Call (.Name x p) (e :: es) [] pos) (tCall sp dvs E t) := by
  intro pins s σ H Q I h
  refine wpAny_Call_Name_kw (ld_glob I hg hm ?_ hdb)
  refine PySem.W.callWith_K (h₀ := X.base) I.ok.mod.kin hk (thn (ha pos pins s σ H _ I h) fun us s1 ⟨vs, H1, I1, r, q⟩ => ⟨I1.kIn, ?_⟩) he hpl
  exact run_fn F hr hb hd hx I1 r q
theorem pe_call0 (F : FnOk X.prog X.w X.K X.mg X.base CX k f fd ps sp) (hr : Room k X.A) (hg : Gl X x) (hm : X.mg x = some (.ref f)) (hk : PySem.W.keepIn X.K (.ref f) = true) (hb : Binds X.K fd ps ds) (hd : Vals dvs ds) (hx : Passes CX X E)
    (hdb : (x == ("__debug__" : Str)) = false := by decide) : PE X (.Call (.Name x p) [] [] pos) (tCall sp dvs E tNil) := by
  intro pins s σ H Q I h
  refine wpAny_Call_Name_kw (ld_glob I hg hm ?_ hdb)
  exact PySem.W.callWith_K0 I.kIn hk (run_fn (us := []) F hr hb hd hx I .nil h)

/-- o.m(e, ..) -/
theorem pe_meth {pl : Sem Bool} (he : PE X o ta) (c : Cls X.K C) (hm : Meth X.K C m f) (F : FnOk X.prog X.w X.K X.mg X.base CX k f fd ps sp) (hr : Room k X.A) (hb : Binds X.K fd ps ds) (hd : Vals dvs ds) (hx : Passes CX X E) (ha : PA X (e :: es) t)
    (hst : starEach (e :: es) X.env = (false, eval e X.env) :: starEach es X.env := by rfl) (hpl : (backTo pos (starEach es X.env)).any (·.1) = false := by rfl)
    (ht : eval (.Call (.Attribute o m apos) (e :: es) [] pos) X.env = (do
      let ov ← eval o X.env
      standAt apos.atName
      let (f, first) ← holding [ov] (getMethod ov m pl)
      callWith pos f first (backTo pos (starEach (e :: es) X.env)) (backToKw pos (keywordEach [] X.env))) := by rfl) :
    PE X (.Call (.Attribute o m apos) (e :: es) [] pos) (tMeth C m sp dvs E ta t) := by
  intro pins s σ H Q I h
  refine PySem.W.methodCall_KW (pl := pl) (thn (he pins s σ H _ I h) fun u s1 ⟨x, H1, I1, rx, a, dx, fs, ex, ea, l, q⟩ => ?_) ht
  subst ex
  obtain rfl : u = Value.ref a := rx
  refine getmeth_ok I1 ea c hm l ?_
  refine PySem.W.callWith_K (first := [.ref a]) (h₀ := X.base) I.ok.mod.kin hm.kp (thn (ha pos pins s1 σ H1 _ I1 q) fun us s2 ⟨vs, H2, I2, r, q2⟩ => ⟨I2.kIn, ?_⟩) hst hpl
  exact run_fn (us := .ref a :: us) (vs := .ref a :: vs) F hr hb hd hx I2 (.cons rfl r) q2
/-- o.m() -/
theorem pe_meth0 {pl : Sem Bool} (he : PE X o ta) (c : Cls X.K C) (hm : Meth X.K C m f) (F : FnOk X.prog X.w X.K X.mg X.base CX k f fd ps sp) (hr : Room k X.A) (hb : Binds X.K fd ps ds) (hd : Vals dvs ds) (hx : Passes CX X E)
    (ht : eval (.Call (.Attribute o m apos) [] [] pos) X.env = (do
      let ov ← eval o X.env
      standAt apos.atName
      let (f, first) ← holding [ov] (getMethod ov m pl)
      callWith pos f first (backTo pos (starEach [] X.env)) (backToKw pos (keywordEach [] X.env))) := by rfl) :
    PE X (.Call (.Attribute o m apos) [] [] pos) (tMeth C m sp dvs E ta tNil) := by
  intro pins s σ H Q I h
  refine PySem.W.methodCall_KW (pl := pl) (thn (he pins s σ H _ I h) fun u s1 ⟨x, H1, I1, rx, a, dx, fs, ex, ea, l, q⟩ => ?_) ht
  subst ex
  obtain rfl : u = Value.ref a := rx
  refine getmeth_ok I1 ea c hm l ?_
  exact PySem.W.callWith_K0 (first := [.ref a]) I1.kIn hm.kp (run_fn (us := [.ref a]) (vs := [.ref a]) F hr hb hd hx I1 (.cons rfl .nil) q)

/-- what a class must have to be made -/
structure Mk (K : PySem.W.Frag) (C f : Addr) : Prop where
  makes : PySem.W.makesIn K C = true
  init : PySem.W.findIn K (.ref C) "__init__" = some (some (.ref f))
  fn : PySem.W.isFn K (.ref f) = true
  kp : PySem.W.keepIn K (.ref C) = true

theorem run_make {pins : List (Addr × Obj)} {σ : St} {H : Hp} {s : Shared} {Q : VK} {us : List Value} {vs : List V} (M : Mk X.K C f) (F : FnOk X.prog X.w X.K X.mg X.base CX k f fd ps sp) (hr : Room (k + 1) X.A) (hb : Binds X.K fd ps ds) (hd : Vals dvs ds)
    (hx : Passes CX X E) (I : Inv X pins σ H s) (r : Vals vs us)
    (h : ∀ x dx, H x = none → H dx = none → dx ≠ x → sp (.ref x :: (vs ++ dvs)) (upd (upd H dx (.own x)) x (.ins C dx [])) (fun v H2 => v = .non ∧ Q (.ref x) H2) E) :
    wpAny (model X.prog X.w) X.A (call (.ref C) us) (EP X pins σ Q) X.xe s := by
  have hq := h (s.heap.objs.size + 1) s.heap.objs.size (I.hok.fresh (Nat.le_succ _)) (I.hok.fresh (Nat.le_refl _)) (Nat.ne_of_lt (Nat.lt_succ_self _))
  have I2 := Inv.made (C := C) I
  have r2 : Vals (V.ref (s.heap.objs.size + 1) :: (vs ++ dvs)) (Value.ref (s.heap.objs.size + 1) :: (us ++ ds)) := .cons rfl (r.append hd)
  have hl : (Value.ref (s.heap.objs.size + 1) :: us ++ ds).length = ps.length := by
    have e := r2.length
    rw [F.len _ _ _ _ hq] at e
    exact e.symm
  refine wpAny_call (make_map (f := f) I.kIn M.makes M.init (beq_iff_eq.mp M.fn) (codeAny_mono (F.run _ X.stack _ _ ⟨Value.ref (s.heap.objs.size + 1) :: us, []⟩ (Value.ref (s.heap.objs.size + 1) :: (us ++ ds)) _ _ E (hr.make C us [])
    (I2.env0.make C us []) (hb _ (Value.ref (s.heap.objs.size + 1) :: us) I2.kIn hl) r2 hq) fun r s' hq' => ?_))
  cases r with
  | error e => exact hx pins σ _ _ e s' I2 hq'
  | ok fl =>
    cases fl with
    | ret u =>
      obtain ⟨v, H', I3, rv, ev, q3⟩ := I2.after hq'
      subst ev
      exact ⟨rv, ⟨V.ref (s.heap.objs.size + 1), H', I3, rfl, q3⟩⟩
    | next => exact False.elim hq'
    | brk => exact False.elim hq'
    | cont => exact False.elim hq'
theorem pe_make (M : Mk X.K C f) (F : FnOk X.prog X.w X.K X.mg X.base CX k f fd ps sp) (hr : Room (k + 1) X.A) (hg : Gl X x) (hm : X.mg x = some (.ref C)) (hb : Binds X.K fd ps ds) (hd : Vals dvs ds) (hx : Passes CX X E)
    (ha : PA X (e :: es) t) (hdb : (x == ("__debug__" : Str)) = false := by decide) (he : starEach (e :: es) X.env = (false, eval e X.env) :: starEach es X.env := by rfl) (hpl : (backTo pos (starEach es X.env)).any (·.1) = false := by rfl) :
    PE X (.Call (.Name x p) (e :: es) [] pos) (tMake C sp dvs E t) := by
  intro pins s σ H Q I h
  refine wpAny_Call_Name_kw (ld_glob I hg hm ?_ hdb)
  refine PySem.W.callWith_K (h₀ := X.base) I.ok.mod.kin M.kp (thn (ha pos pins s σ H _ I h) fun us s1 ⟨vs, H1, I1, r, q⟩ => ⟨I1.kIn, ?_⟩) he hpl
  exact run_make M F hr hb hd hx I1 r q
theorem pe_make0 (M : Mk X.K C f) (F : FnOk X.prog X.w X.K X.mg X.base CX k f fd ps sp) (hr : Room (k + 1) X.A) (hg : Gl X x) (hm : X.mg x = some (.ref C)) (hb : Binds X.K fd ps ds) (hd : Vals dvs ds) (hx : Passes CX X E)
    (hdb : (x == ("__debug__" : Str)) = false := by decide) : PE X (.Call (.Name x p) [] [] pos) (tMake C sp dvs E tNil) := by
  intro pins s σ H Q I h
  refine wpAny_Call_Name_kw (ld_glob I hg hm ?_ hdb)
  exact PySem.W.callWith_K0 I.kIn M.kp (run_make (us := []) M F hr hb hd hx I .nil h)
end

/-! ### keywords -/
/-- the values of the keywords, from the left -/
def PK (X : Cx) (kws : List Keyword) (t : TA) : Prop :=
  ∀ (pos : Pos) (pins : List (Addr × Obj)) (s : Shared) (σ : St) (H : Hp) (Q : List V → Hp → Prop), Inv X pins σ H s → t σ H Q → wpAny (model X.prog X.w) X.A (evalAll ((backToKw pos (keywordEach kws X.env)).map (·.2))) (AP X pins σ Q) X.xe s
section
variable {X : Cx} {CX : CXT} {k : Nat} {f C : Addr} {fd : FuncData} {ps ks : List Str} {sp : Sp} {E : XK} {x m : Str} {p pos apos kpos : Pos} {e o : Expr} {es : List Expr} {kws : List Keyword} {te ta : TE} {t tk : TA} {nm : Option Str}
theorem pk_nil : PK X [] tNil := fun _ _ _ _ H Q I h => wpAny_evalAll_nil ⟨[], H, I, .nil, h⟩
theorem pk_cons (ha : PE X e te) (hr : PK X kws t) : PK X (⟨nm, e, kpos⟩ :: kws) (tCons te t) := by
  intro pos pins s σ H Q I h
  show wpAny _ _ (evalAll ((do let v ← eval e X.env; standAt pos; pure v) :: (backToKw pos (keywordEach kws X.env)).map (·.2))) _ _ s
  refine wpAny_evalAll_cons (wpAny_bind (thn (ha pins s σ H _ I h) fun u s1 ⟨x, H1, I1, r1, q1⟩ => wpAny_bind (wpAny_standAt (wpAny_pure ?_))))
  exact thn (hr pos pins s1 σ H1 _ I1 q1) fun us s2 ⟨xs, H2, I2, r2, q2⟩ => ⟨x :: xs, H2, I2, .cons r1 r2, q2⟩

/-- how a call with keywords binds: g puts the positional values us and the keywords' values ws (names ks) in the parameters' order, defaults among them -/
structure KBinds (K : PySem.W.Frag) (fd : FuncData) (ps ks : List Str) (g : List Value → List Value → List Value) (gV : List V → List V → List V) : Prop where
  to : ∀ (s : Shared) (us ws : List Value), K.In s.heap → (g us ws).length = ps.length → BindsTo s fd ⟨us, ks.zip ws⟩ (ps.zip (g us ws))
  rel : ∀ {vs : List V} {us : List Value} {zs : List V} {ws : List Value}, Vals vs us → Vals zs ws → Vals (gV vs zs) (g us ws)
def tCallK (sp : Sp) (gV : List V → List V → List V) (E : XK) (t tk : TA) : TE := fun σ H Q => t σ H fun vs H1 => tk σ H1 fun zs H2 => sp (gV vs zs) H2 Q E
variable {g : List Value → List Value → List Value} {gV : List V → List V → List V}
theorem run_fnk {pins : List (Addr × Obj)} {σ : St} {H : Hp} {s : Shared} {Q : VK} {us ws : List Value} {vs zs : List V} (F : FnOk X.prog X.w X.K X.mg X.base CX k f fd ps sp) (hr : Room k X.A) (hb : KBinds X.K fd ps ks g gV) (hx : Passes CX X E)
    (I : Inv X pins σ H s) (r : Vals vs us) (rz : Vals zs ws) (h : sp (gV vs zs) H Q E) : wpAny (model X.prog X.w) X.A (call (.ref f) us (ks.zip ws)) (EP X pins σ Q) X.xe s := by
  have r2 := hb.rel r rz
  have hl : (g us ws).length = ps.length := by rw [← r2.length]; exact F.len _ _ _ _ h
  refine wpAny_call (codeAny_mono (F.run X.A X.stack s H ⟨us, ks.zip ws⟩ (g us ws) (gV vs zs) Q E hr I.env0 (hb.to s us ws I.kIn hl) r2 h) fun r s' hq => ?_)
  cases r with
  | error e => exact hx pins σ H s e s' I hq
  | ok fl =>
    cases fl with
    | ret u => exact I.after hq
    | next => exact False.elim hq
    | brk => exact False.elim hq
    | cont => exact False.elim hq
/-- f(e, .., k = v, ..) -/
theorem pe_callK (F : FnOk X.prog X.w X.K X.mg X.base CX k f fd ps sp) (hr : Room k X.A) (hg : Gl X x) (hm : X.mg x = some (.ref f)) (hk : PySem.W.keepIn X.K (.ref f) = true) (hb : KBinds X.K fd ps ks g gV) (hx : Passes CX X E)
    (ha : PA X (e :: es) t) (hkw : PK X kws tk) (hall : (backToKw pos (keywordEach kws X.env)).all (·.1.isSome) = true := by rfl) (hks : (backToKw pos (keywordEach kws X.env)).filterMap (·.1) = ks := by rfl)
    (hdb : (x == ("__debug__" : Str)) = false := by decide) (he : starEach (e :: es) X.env = (false, eval e X.env) :: starEach es X.env := by rfl)
    (hpl : ((backTo pos (starEach (e :: es) X.env)).any (·.1) || (backToKw pos (keywordEach kws X.env)).any (·.1.isNone)) = false := by rfl) :
    PE X (.Call (.Name x p) (e :: es) kws pos) (tCallK sp gV E t tk) := by
  intro pins s σ H Q I h
  refine wpAny_Call_Name_kw (ld_glob I hg hm ?_ hdb)
  refine PySem.W.callWith_KW (h₀ := X.base) I.ok.mod.kin hk hall (thn (ha pos pins s σ H _ I h) fun us s1 ⟨vs, H1, I1, r, q⟩ => ?_) hpl he
  refine thn (hkw pos pins s1 σ H1 _ I1 q) fun ws s2 ⟨zs, H2, I2, rz, q2⟩ => ⟨I2.kIn, ?_⟩
  rw [hks]
  exact run_fnk F hr hb hx I2 r rz q2
end

/-! ### a def's body keeps its promise -/
/-- names: the parameters first -/
structure FnScope (N P : List Str) (sc : Scope) : Prop where
  kind : sc.kind = .function
  co : sc.isCoroutine = false
  gen : sc.isGenerator = false
  nd : N.Nodup
  pre : N.take P.length = P
  par : ∀ x ∈ P, sc.names.lookup x = some .local ∨ sc.names.lookup x = some .cell
  nofree : ∀ y ∈ sc.names, y.2 ≠ .free

theorem bindL_out {kindOf : Str → Option NameKind} {x : Str} : ∀ {binds : List (Str × Value)} {m : Str → Option Value}, (∀ v, (x, v) ∉ binds) → bindL kindOf binds m x = m x
  | [], _, _ => rfl
  | (n, v) :: r, m, h => by
    unfold bindL
    rw [bindL_out fun w hw => h w (List.mem_cons_of_mem _ hw)]
    split
    · have : x ≠ n := by rintro rfl; exact h v List.mem_cons_self
      simp [this]
    · rfl
theorem bindC_out {kindOf : Str → Option NameKind} {x : Str} : ∀ {binds : List (Str × Value)} {m : Str → Option Value}, (∀ v, (x, v) ∉ binds) → bindC kindOf binds m x = m x
  | [], _, _ => rfl
  | (n, v) :: r, m, h => by
    unfold bindC
    rw [bindC_out fun w hw => h w (List.mem_cons_of_mem _ hw)]
    split
    · rfl
    · have : x ≠ n := by rintro rfl; exact h v List.mem_cons_self
      simp [this]
theorem bindL_get {kindOf : Str → Option NameKind} {x : Str} {v : Value} : ∀ {P : List Str} {vs : List Value} {i : Nat} {m : Str → Option Value}, P.Nodup → P[i]? = some x → vs[i]? = some v → kindOf x = some .local →
    bindL kindOf (P.zip vs) m x = some v
  | [], _, _, _, _, h, _, _ => by simp at h
  | _ :: _, [], _, _, _, _, h, _ => by simp at h
  | p :: P, w :: vs, 0, m, nd, h1, h2, hk => by
    simp at h1 h2; subst h1; subst h2
    show bindL kindOf ((p, w) :: P.zip vs) m p = _
    unfold bindL
    rw [bindL_out fun v hv => (List.nodup_cons.mp nd).1 (List.of_mem_zip hv).1, if_pos hk]
    simp
  | p :: P, w :: vs, i + 1, m, nd, h1, h2, hk => by
    show bindL kindOf ((p, w) :: P.zip vs) m x = _
    unfold bindL
    exact bindL_get (i := i) (List.nodup_cons.mp nd).2 (by simpa using h1) (by simpa using h2) hk
theorem bindC_get {kindOf : Str → Option NameKind} {x : Str} {v : Value} : ∀ {P : List Str} {vs : List Value} {i : Nat} {m : Str → Option Value}, P.Nodup → P[i]? = some x → vs[i]? = some v → kindOf x ≠ some .local →
    bindC kindOf (P.zip vs) m x = some v
  | [], _, _, _, _, h, _, _ => by simp at h
  | _ :: _, [], _, _, _, _, h, _ => by simp at h
  | p :: P, w :: vs, 0, m, nd, h1, h2, hk => by
    simp at h1 h2; subst h1; subst h2
    show bindC kindOf ((p, w) :: P.zip vs) m p = _
    unfold bindC
    rw [bindC_out fun v hv => (List.nodup_cons.mp nd).1 (List.of_mem_zip hv).1, if_neg hk]
    simp
  | p :: P, w :: vs, i + 1, m, nd, h1, h2, hk => by
    show bindC kindOf ((p, w) :: P.zip vs) m x = _
    unfold bindC
    exact bindC_get (i := i) (List.nodup_cons.mp nd).2 (by simpa using h1) (by simpa using h2) hk

/-- the names' values at the entry -/
def start (N : List Str) (vs : List V) : St := vs.map some ++ List.replicate (N.length - vs.length) none

/-- the context of a def's body, at its entry; an exception leaves the frame, then lies as CX says -/
def cxOf (CX : CXT) (P : Program) (w : World) (K : PySem.W.Frag) (mg : Str → Option Value) (base : Heap) (N : List Str) (qual : Str) (scope : Scope) (f : Addr) (cd : Value) (A : Around) (outer : List Env) (s : Shared) (H : Hp) (E : XK) : Cx where
  prog := P
  w := w
  K := K
  mg := mg
  base := base
  A := A.deeper (envOfC qual scope s.heap.objs.size f cd)
  N := N
  s₀ := s
  H₀ := H
  env := envOfC qual scope s.heap.objs.size f cd
  outer := outer
  stack := envOfC qual scope s.heap.objs.size f cd :: outer
  ex := []
  calm := true
  fn := fun _ => true
  pn := []
  xe := fun e s' => wpAny (model P w) (A.deeper (envOfC qual scope s.heap.objs.size f cd)) (leaving (envOfC qual scope s.heap.objs.size f cd) e) (fun _ s'' => CX outer H s E e s'') (fun e' s'' => CX outer H s E e' s'') s'

theorem cell_has {sc : Scope} {n : Nat} {x : Str} (h : sc.names.lookup x = some .cell) : ∃ c, (cellsFrom n sc.names []).lookup x = some c := by
  have q := PySem.W.cellsFrom_some sc.names n [] (.inl h)
  exact Option.isSome_iff_exists.mp q

theorem inv_start {CX : CXT} {P : Program} {w : World} {K : PySem.W.Frag} {mg : Str → Option Value} {base : Heap} {N ps : List Str} {qual : Str} {scope : Scope} {f : Addr} {cd : Value} {A : Around} {outer : List Env} {s s1 : Shared} {H : Hp} {E : XK} {us : List Value} {vs : List V}
    (S : FnScope N ps scope) (hd : A.handled = none) (e0 : Env0 P w K mg base A outer s H) (hl : vs.length = ps.length) (r : Vals vs us)
    (x : InCallC s s.heap.objs.size (bindL (envOfC qual scope s.heap.objs.size f cd).kindOf (ps.zip us) fun _ => none) (cellsFrom (s.heap.objs.size + 1) scope.names []) (bindC (envOfC qual scope s.heap.objs.size f cd).kindOf (ps.zip us) fun _ => none) s1) :
    Inv (cxOf CX P w K mg base N qual scope f cd A outer s H E) [] (start N vs) H s1 := by
  have hpl : ps.length ≤ N.length := by have := congrArg List.length S.pre; rw [List.length_take] at this; omega
  obtain ⟨h1, tk, rfl, hk⟩ := x.done
  have noA : ∀ b : Addr, b ∉ (cxOf CX P w K mg base N qual scope f cd A outer s H E).ex := fun b z => absurd (show b ∈ ([] : List Addr) from z) (by simp)
  refine ⟨⟨e0.mod, S.kind, rfl, rfl, Nat.le_refl _, fun y z c h1 h2 => ?_, fun y hy => ?_, fun y c _ h => ?_, fun _ => hd, Around.frames_deeper e0.frames, .inr ⟨rfl, rfl⟩, fun b z => absurd z (noA b), e0.bs, e0.bsz, fun b _ _ => noA b, fun b z => absurd z (noA b), e0.funs, e0.frf⟩,
    rfl, e0.bare, Un.kept hk, ⟨_, x.toInCall.ns, fun i y v h1 h2 h3 => ?_⟩, fun y c h => ⟨_, x.cell y c h⟩, e0.hok.fresh (Nat.le_refl _), fun y c h => ?_, fun p hp => absurd (show p ∈ ([] : List (Addr × Obj)) from hp) (by simp), e0.hok.kept hk, ?_⟩
  · exact name_of_addr x.apart (PySem.mem_of_lookup h1) (PySem.mem_of_lookup h2)
  · have hy : scope.names.lookup y = some .cell ∨ scope.names.lookup y = some .free := hy
    rcases hy with hy | hy
    · exact cell_has hy
    · exact absurd rfl (S.nofree _ (PySem.mem_of_lookup hy))
  · exact Nat.le_of_lt (x.above y c (PySem.mem_of_lookup h))
  · have hi : i < vs.length := by
      unfold start at h2
      by_cases hi : i < vs.length
      · exact hi
      · rw [List.getElem?_append_right (by simpa using hi)] at h2
        rw [List.getElem?_replicate] at h2
        split at h2 <;> cases h2
    have ha : vs[i]? = some v := by
      unfold start at h2
      rw [List.getElem?_append_left (by simpa using hi), List.getElem?_map] at h2
      cases e : vs[i]? with
      | none => rw [e] at h2; cases h2
      | some a => rw [e] at h2; cases h2; rfl
    obtain ⟨u, hu, rv⟩ := r.get ha
    have hp : ps[i]? = some y := by
      rw [← S.pre, List.getElem?_take_of_lt (by omega)]; exact h1
    have ndP : ps.Nodup := by rw [← S.pre]; exact S.nd.sublist (List.take_sublist _ _)
    refine ⟨u, rv, ?_⟩
    rcases S.par y (List.mem_of_getElem? hp) with k | k
    · exact .inl ⟨k, bindL_get ndP hp hu k⟩
    · obtain ⟨c, e⟩ := cell_has (n := s.heap.objs.size + 1) k
      refine .inr ⟨.inl k, c, e, ?_⟩
      have q := x.cell y c e
      rw [bindC_get ndP hp hu (by show scope.names.lookup y ≠ _; rw [k]; decide)] at q
      exact q
  · exact e0.hok.fresh (Nat.le_of_lt (x.above y c (PySem.mem_of_lookup h)))
  · unfold start
    show _ = N.length
    rw [List.length_append, List.length_map, List.length_replicate]
    omega

/-- THE RULE: a def (or a method) of the text, by its body. The body's reading t is chosen for each entry; it is run at the parameters' values -/
theorem fn_of {CX : CXT} {P : Program} {w : World} {K : PySem.W.Frag} {mg : Str → Option Value} {base : Heap} {k : Nat} {f : Addr} {name qual : Str} {params : Arguments} {body : List Stmt} {scope : Scope} {dV kV doc pm cdv ct oc : Value} {an od : Option Addr}
    {osl : Array (Option Value)} {N ps : List Str} {sp : Sp} (lk : K.lookup f = some ⟨oc, od, .func (PySem.W.fnOf name qual params body scope dV kV doc pm an cdv ct), osl⟩) (hcd : PySem.W.codeIn K cdv qual = true) (S : FnScope N ps scope)
    (len : ∀ vs H Q E, sp vs H Q E → vs.length = ps.length)
    (hbody : ∀ (A : Around) (outer : List Env) (s : Shared) (H : Hp) (vs : List V) (Q : VK) (E : XK), Room k (A.deeper (envOfC qual scope s.heap.objs.size f cdv)) → sp vs H Q E →
      ∃ t, PSs (cxOf CX P w K mg base N qual scope f cdv A outer s H E) body t ∧ t { nx := fun _ H' => Q .non H', rt := Q } (start N vs) H) :
    FnOk P w K mg base CX (k + 1) f (PySem.W.fnOf name qual params body scope dV kV doc pm an cdv ct) ps sp := by
  refine ⟨len, fun A outer s H args us vs Q E hr e0 hb r hsp => ?_⟩
  have hl := len _ _ _ _ hsp
  have KX : K.In s.heap := e0.mod.kin.keeps fun b o e => (e0.bs b o e).1
  have lim : s.heap.NoLimit := e0.mod.nolimit.keeps fun b o e => (e0.bs b o e).1
  have hkind : ∀ y ∈ ps.zip us, scope.names.lookup y.1 = some .local ∨ (scope.names.lookup y.1 = some .cell ∧ ((cellsFrom (s.heap.objs.size + 1) scope.names []).lookup y.1).isSome = true) := fun ⟨n, v⟩ hy => by
    rcases S.par n (List.of_mem_zip hy).1 with q | q
    · exact .inl q
    · exact .inr ⟨q, PySem.W.cellsFrom_some _ _ _ (.inl q)⟩
  refine codeAny_call_function hr.depth (KX _ _ lk) rfl S.co S.gen rfl (PySem.W.codeRec_of KX hcd) (hb _ _ _ _ ?_)
  refine wpAny_newFunctionEnv_cells S.kind hkind fun env he s1 x => ?_
  subst he
  refine ⟨lim.keeps x.toInCall.keep, codeAny_func ?_⟩
  obtain ⟨t, ht, hq⟩ := hbody A outer s H vs Q E (hr.deeper _) hsp
  have I : Inv (cxOf CX P w K mg base N qual scope f cdv A outer s H E) [] (start N vs) H s1 := inv_start S hr.hd e0 hl r x
  refine wpAny_mono (ht [] s1 (start N vs) H _ I hq) (fun fl s' hs => ?_) fun e s' hs => hs
  have fin : ∀ {σ' : St} {H' : Hp} {v : V} {u : Value}, Inv (cxOf CX P w K mg base N qual scope f cdv A outer s H E) [] σ' H' s' → RelV v u → Q v H' → CE outer P w H s Q u s' :=
    fun {σ' H' v u} J rv q => ⟨v, H', J.os, J.bare, J.base, J.hok, rv, q⟩
  cases fl with
  | ret u =>
    obtain ⟨v, σ', H', J, rv, q⟩ := hs
    exact fin J rv q
  | next =>
    obtain ⟨σ', H', J, q⟩ := hs
    exact fin (v := V.non) (u := Value.none) J rfl q
  | brk =>
    obtain ⟨_, _, _, q⟩ := hs
    exact False.elim q
  | cont =>
    obtain ⟨_, _, _, q⟩ := hs
    exact False.elim q
end L2

namespace L2
open PySem PySem.Spec PyProof.Rows
section
variable {X : Cx} {x : Str} {p pos : Pos} {e : Expr} {es : List Expr} {t : TA} {id T : String} {r : List V → Hp → VK → Prop}

def tCB (r : List V → Hp → VK → Prop) (t : TA) : TE := fun σ H Q => t σ H fun vs H1 => r vs H1 Q
/-- f(e, ..), f a built-in function -/
theorem pe_callB (hc : CallR X (.builtin id) r) (hg : Gl X x) (hm : X.mg x = none) (hv : bootBuiltins x = some (.builtin id)) (ha : PA X (e :: es) t) (hn : x ≠ "__name__" := by decide) (hdb : (x == ("__debug__" : Str)) = false := by decide)
    (he : starEach (e :: es) X.env = (false, eval e X.env) :: starEach es X.env := by rfl) (hpl : (backTo pos (starEach es X.env)).any (·.1) = false := by rfl) : PE X (.Call (.Name x p) (e :: es) [] pos) (tCB r t) := by
  intro pins s σ H Q I h
  refine wpAny_Call_Name_kw (ld_blt I hg hm hv ?_ hn hdb)
  exact PyProof.Rows.callWith_builtin1 (thn (ha pos pins s σ H _ I h) fun us s1 ⟨vs, H1, I1, r1, q1⟩ => hc pins s1 σ H1 vs us Q I1 r1 q1) he hpl
/-- T(e, ..), T a built-in type -/
theorem pe_callTy (hc : CallR X (.type T) r) (hg : Gl X x) (hm : X.mg x = none) (hv : bootBuiltins x = some (.type T)) (ha : PA X (e :: es) t) (hn : x ≠ "__name__" := by decide) (hdb : (x == ("__debug__" : Str)) = false := by decide)
    (he : starEach (e :: es) X.env = (false, eval e X.env) :: starEach es X.env := by rfl) (hpl : (backTo pos (starEach es X.env)).any (·.1) = false := by rfl) : PE X (.Call (.Name x p) (e :: es) [] pos) (tCB r t) := by
  intro pins s σ H Q I h
  refine wpAny_Call_Name_kw (ld_blt I hg hm hv ?_ hn hdb)
  exact PyProof.Rows.callWith_type1 (thn (ha pos pins s σ H _ I h) fun us s1 ⟨vs, H1, I1, r1, q1⟩ => hc pins s1 σ H1 vs us Q I1 r1 q1) he hpl
/-- T() -/
theorem pe_callTy0 (hc : CallR X (.type T) r) (hg : Gl X x) (hm : X.mg x = none) (hv : bootBuiltins x = some (.type T)) (hn : x ≠ "__name__" := by decide) (hdb : (x == ("__debug__" : Str)) = false := by decide) :
    PE X (.Call (.Name x p) [] [] pos) (tCB r tNil) := by
  intro pins s σ H Q I h
  refine wpAny_Call_Name_kw (ld_blt I hg hm hv ?_ hn hdb)
  exact PyProof.Rows.callWith_type0 (hc pins s σ H [] [] Q I .nil h)
end
end L2

namespace HT
open PySem PyProof.Rows

/-- t < u of tuples of ints -/
def lexLt : List Int → List Int → Bool
  | [], [] => false
  | [], _ :: _ => true
  | _ :: _, [] => false
  | x :: xs, y :: ys => if x = y then lexLt xs ys else decide (x < y)
theorem lexLt_cons (x y : Int) (xs ys : List Int) : lexLt (x :: xs) (y :: ys) = if x = y then lexLt xs ys else decide (x < y) := rfl
theorem lexLt_nil_nil : lexLt [] [] = false := rfl
theorem lexLt_nil_cons (y : Int) (ys : List Int) : lexLt [] (y :: ys) = true := rfl
theorem lexLt_cons_nil (x : Int) (xs : List Int) : lexLt (x :: xs) [] = false := rfl

theorem eqAt_int (A : Around) (s : Shared) (a : Int) (t : Tok) (c : Int) (u : Tok) : ∃ e, SeqAt.EqAt A s (.int a t) (.int c u) e ∧ (e = true ↔ a = c) :=
  ⟨(a == c), SeqAt.EqAt.int_int a t c u, by simp⟩
theorem rcLt_int (A : Around) (s : Shared) (a : Int) (t : Tok) (c : Int) (u : Tok) (prog : Program) (w : World) (E : Value → Shared → Prop) (Q : Value → Shared → Prop) (h : Q (.bool (decide (a < c))) s) :
    wpAny (model prog w) A (richCompare .Lt (.int a t) (.int c u)) Q E s :=
  (PyProof.Rows.lt_int h : wpAny (model prog w) A (compareOp .Lt (.int a t) (.int c u)) Q E s)

section
open PySem.SeqAt
open PySem.AutoSeq1 (wpAny_loadPart')
open PySem.MeetsSeq PySem.MeetsSeq2 PySem.MeetsSeq3

theorem tuple_lt_ints (l b : Addr) (items items2 : Array Value) (n n2 : Nat) (dd dd2 : Option Addr) (sl sl2 : Array (Option Value)) (ns ms : List Int) (hi : IntsAre items.toList ns) (hj : IntsAre items2.toList ms) :
    Meets (Builtin.«tuple.__lt__» ⟨[.ref l, .ref b], []⟩)
      (fun _ R s => s.heap.get? l = some { cls := .type "tuple", dict := dd, data := .seq items n, slots := sl } ∧ s.heap.get? b = some { cls := .type "tuple", dict := dd2, data := .seq items2 n2, slots := sl2 } ∧
        R (.ok (.ret (.bool (lexLt ns ms)))) s) :=
  .of_wp fun prog w A R s h => by
    obtain ⟨hp, g, d, tk, os⟩ := s; obtain ⟨hl, hb, h⟩ := h
    have f2 := AutoSeq1.sub_tuple_tuple
    have z1 : items.size = ns.length := by rw [← hi.length]; simp
    have z2 : items2.size = ms.length := by rw [← hj.length]; simp
    wp_walk using wpAny_loadPart' hl, wpAny_loadPart' hb, wpAny_forIn_list _ (fun rest b s' => b.1 = none ∧ s' = ⟨hp, g, d, tk, os⟩ ∧ ∃ (vs ws : List Value) (ns' ms' : List Int), rest = vs.zip ws ∧
      IntsAre vs ns' ∧ IntsAre ws ms' ∧ ns'.length + items2.size = ms'.length + items.size ∧ R (.ok (.ret (.bool (lexLt ns' ms')))) ⟨hp, g, d, tk, os⟩) _
    case turn =>
      rintro ⟨y, x⟩ rest b s' ⟨hb', rfl, vs, ws, ns', ms', hz, hvi, hwi, hlen, hR⟩
      cases hvi with
      | nil => rw [List.zip_nil_left] at hz; cases hz
      | cons a t hvi' =>
        cases hwi with
        | nil => rw [List.zip_nil_right] at hz; cases hz
        | cons c u hwi' =>
          rw [List.zip_cons_cons] at hz
          injection hz with hyx hrest
          injection hyx with hy hx
          subst hy hx
          rw [lexLt_cons] at hR
          simp only [List.length_cons] at hlen
          obtain ⟨e, he, hiff⟩ := eqAt_int A.in1 ⟨hp, g, d, tk, os⟩ a t c u
          refine wpAny_bind (he prog w _ _ ?_)
          cases e with
          | true =>
            rw [if_pos (hiff.mp rfl)] at hR
            wp_walk
            exact ⟨rfl, rfl, _, _, _, _, hrest, hvi', hwi', by omega, hR⟩
          | false =>
            rw [if_neg (fun q => absurd (hiff.mpr q) Bool.false_ne_true)] at hR
            have hri := rcLt_int A.in1 ⟨hp, g, d, tk, os⟩ a t c u prog w
            wp_walk using hri
            exact ⟨_, rfl, by simpa using hR⟩
    case fin =>
      rintro ⟨b1, b2⟩ s' ⟨hb', rfl, vs, ws, ns', ms', hz, hvi, hwi, hlen, hR⟩
      simp only at hb'
      subst hb'
      have hv : lexLt ns' ms' = decide (items.size < items2.size) := by
        cases hvi with
        | nil =>
          cases hwi with
          | nil =>
            simp only [List.length_nil] at hlen
            rw [lexLt_nil_nil]
            exact (decide_eq_false (by omega)).symm
          | cons c u hw =>
            simp only [List.length_nil, List.length_cons] at hlen
            rw [lexLt_nil_cons]
            exact (decide_eq_true (by omega)).symm
        | cons a t hv =>
          cases hwi with
          | nil =>
            simp only [List.length_nil, List.length_cons] at hlen
            rw [lexLt_cons_nil]
            exact (decide_eq_false (by omega)).symm
          | cons c u hw =>
            rw [List.zip_cons_cons] at hz
            cases hz
      rw [hv] at hR
      wp_walk
      exact ⟨_, rfl, by simpa [Builtin.Tuple.tupleCompareSizes] using hR⟩
    case h =>
      exact ⟨rfl, rfl, items.toList, items2.toList, ns, ms, rfl, hi, hj, by omega, h⟩
end

section
variable {prog : Program} {w : World} {A : Around} {E : Value → Shared → Prop} {s : Shared}

theorem lt_tupInts {l b : Addr} {items items2 : Array Value} {ns ms : List Int} {Q : Value → Shared → Prop} (hl : IsTup s.heap l items) (hb : IsTup s.heap b items2) (hi : IntsAre items.toList ns) (hj : IntsAre items2.toList ms)
    (hu : A.units < cLine) (h : Q (.bool (lexLt ns ms)) s) : wpAny (model prog w) A (compareOp .Lt (.ref l) (.ref b)) Q E s := by
  obtain ⟨⟨cls, dd, data, sl⟩, ho, hc, n, hd⟩ := id hl
  obtain ⟨⟨cls2, dd2, data2, sl2⟩, ho2, hc2, n2, hd2⟩ := id hb
  simp only at hc hd hc2 hd2
  subst hc hd hc2 hd2
  exact richCompare_meets_room (op := .Lt) ⟨_, ho, rfl⟩ ⟨_, ho2, rfl⟩ PySem.F.slot_tuple_lt PySem.F.entry_tuple_lt (PySem.F.args_tuple_lt_2 _ _) (tuple_lt_ints l b items items2 n n2 dd dd2 sl sl2 ns ms hi hj)
    ⟨ho, ho2, show Value.bool (lexLt ns ms) ≠ Value.notImplemented ∧ Q (.bool (lexLt ns ms)) s from ⟨(fun x => nomatch x), h⟩⟩ hu

/-- t + u, t not empty -/
theorem cat_tup {t b : Addr} {vs ws : List Value} {Q : Value → Shared → Prop} (ht : IsTup s.heap t vs.toArray) (hb : IsTup s.heap b ws.toArray) (hv : vs ≠ [])
    (h1 : ws = [] → Q (.ref t) s) (h2 : ws ≠ [] → Q (.ref s.heap.objs.size) { s with heap := s.heap.push { cls := .type "tuple", data := .seq (vs ++ ws).toArray } })
    (hsz : vs.length + ws.length ≤ sizeLine) : wpAny (model prog w) A (binaryOp .Add (.ref t) (.ref b)) Q E s := by
  obtain ⟨⟨cls, dd, data, sl⟩, ho, hc, n, hd⟩ := id ht
  obtain ⟨⟨cls2, dd2, data2, sl2⟩, ho2, hc2, n2, hd2⟩ := id hb
  simp only at hc hd hc2 hd2
  subst hc hd hc2 hd2
  have e : vs.toArray ++ ws.toArray = (vs ++ ws).toArray := by simp
  by_cases hw : ws = []
  · exact concat_meets ⟨_, ho, rfl⟩ ⟨_, ho2, rfl⟩ noFill_tuple_add seq_tuple_add PySem.F.slot_tuple_add PySem.F.entry_tuple_add (PySem.F.args_tuple_add_2 _ _)
      (tuple_addW1 t b vs.toArray ws.toArray n n2 dd dd2 sl sl2 (by simpa using hv) (by simp [hw])) ⟨ho, ho2, h1 hw⟩
  · refine concat_meets ⟨_, ho, rfl⟩ ⟨_, ho2, rfl⟩ noFill_tuple_add seq_tuple_add PySem.F.slot_tuple_add PySem.F.entry_tuple_add (PySem.F.args_tuple_add_2 _ _)
      (tuple_addW2 t b vs.toArray ws.toArray n n2 dd dd2 sl sl2 (by simpa using hv) (by simpa using hw) (by rw [List.size_toArray, List.size_toArray]; exact hsz)) ⟨ho, ho2, ?_⟩
    rw [e]
    exact h2 hw

/-! ### t[a:b], not the whole -/
/-- a slice's bound as a place among n (d where it is left out) -/
def sIx (n d : Nat) : Option Int → Nat
  | none => d
  | some v => if v < 0 then (v + (n : Int)).toNat else min v.toNat n
theorem sIx_none (n d : Nat) : sIx n d none = d := rfl
theorem sIx_nat (n d k : Nat) : sIx n d (some (k : Int)) = min k n := by
  show (if (k : Int) < 0 then ((k : Int) + (n : Int)).toNat else min (k : Int).toNat n) = min k n
  rw [if_neg (by omega), Int.toNat_natCast]
theorem sIx_le (n d : Nat) (hd : d ≤ n) (o : Option Int) : sIx n d o ≤ n := by
  cases o with
  | none => exact hd
  | some v =>
    show (if v < 0 then (v + (n : Int)).toNat else min v.toNat n) ≤ n
    by_cases hv : v < 0
    · rw [if_pos hv]; omega
    · rw [if_neg hv]; exact Nat.min_le_right _ _
theorem clip_eq (v : Int) (n d : Nat) : (if v < 0 then max (v + (n : Int)) 0 else min v (n : Int)) = ((sIx n d (some v) : Nat) : Int) := by
  show (if v < 0 then max (v + (n : Int)) 0 else min v (n : Int)) = (((if v < 0 then (v + (n : Int)).toNat else min v.toNat n) : Nat) : Int)
  by_cases hv : v < 0
  · simp only [if_pos hv]; omega
  · simp only [if_neg hv]; omega
theorem adjust_gen (lo hi : Option Int) (n : Nat) : Builtin.Slice.sliceAdjust lo hi 1 (n : Int) = (((sIx n 0 lo : Nat) : Int), ((sIx n n hi : Nat) : Int)) := by
  have h1 : ¬ ((1 : Int) < 0) := by omega
  unfold Builtin.Slice.sliceAdjust
  simp only [h1, if_false]
  refine Prod.ext ?_ ?_
  · cases lo with
    | none => rfl
    | some v => exact clip_eq v n 0
  · cases hi with
    | none => rfl
    | some v => exact clip_eq v n n
theorem places_gen (i j : Nat) : Builtin.Slice.slicePlaces (i : Int) (j : Int) 1 = j - i := by
  unfold Builtin.Slice.slicePlaces
  have h1 : (1 : Int) > 0 := by omega
  simp only [h1, if_true, Int.ediv_one]
  split <;> omega
theorem slicePart_ {v : Value} {o : Option Int} {Q : Option Int → Shared → Prop} (p : IsPart v o) (h : Q o s) : wpAny (model prog w) A (Builtin.Slice.slicePartIndex v) Q E s := by
  cases p with
  | none => exact slicePart_none h
  | int i t => exact slicePart_int h
theorem sliceApplied_gen {sl : Addr} {vl vu : Value} {lo hi : Option Int} {n : Nat} {Q : Int × Int × Nat → Shared → Prop} (hs : s.heap.IsSliceOf sl vl vu .none) (pl : IsPart vl lo) (pu : IsPart vu hi)
    (h : Q (((sIx n 0 lo : Nat) : Int), 1, sIx n n hi - sIx n 0 lo) s) : wpAny (model prog w) A (Builtin.Slice.sliceApplied (.ref sl) (pure (n : Int))) Q E s := by
  obtain ⟨os, hos, hcs, hds⟩ := id hs
  unfold Builtin.Slice.sliceApplied Builtin.Slice.sliceFields
  refine wpAny_bind (wpAny_bind (wpAny_field hos hds (x := vl) rfl (wpAny_bind (wpAny_field hos hds (x := vu) rfl (wpAny_bind (wpAny_field hos hds (x := .none) rfl (wpAny_pure ?_)))))))
  refine wpAny_bind (slicePart_none ?_)
  show wpAny _ _ (if ((1 : Int) == 0) = true then _ else _) _ _ s
  rw [if_neg (by decide)]
  refine wpAny_bind (slicePart_ pl (wpAny_bind (slicePart_ pu (wpAny_bind (wpAny_pure ?_)))))
  show wpAny _ _ (match Builtin.Slice.sliceAdjust lo hi 1 (n : Int) with | (lo, hi) => pure (lo, (1 : Int), Builtin.Slice.slicePlaces lo hi 1)) _ _ s
  rw [adjust_gen lo hi n]
  show wpAny _ _ (pure (((sIx n 0 lo : Nat) : Int), (1 : Int), Builtin.Slice.slicePlaces ((sIx n 0 lo : Nat) : Int) ((sIx n n hi : Nat) : Int) 1)) _ _ s
  rw [places_gen]
  exact wpAny_pure h
theorem pick_gen (xs : Array Value) (i k : Nat) : ((List.range k).filterMap fun (m : Nat) => xs[((i : Int) + (m : Int) * 1).toNat]?).toArray = ((xs.toList.drop i).take k).toArray := by
  have e : (fun (m : Nat) => xs[((i : Int) + (m : Int) * 1).toNat]?) = fun m => xs[i + m]? := by
    funext m
    have : ((i : Int) + (m : Int) * 1).toNat = i + m := by omega
    rw [this]
  rw [e]
  have := pick_run xs i k
  rw [List.filterMap_map] at this
  have e2 : ((fun x => xs[x]?) ∘ fun x => i + x) = fun m => xs[i + m]? := rfl
  rw [e2] at this
  rw [this]

theorem getItem_tuple_cut {t sl : Addr} {items : Array Value} {vl vu : Value} {lo hi : Option Int} {Q : Value → Shared → Prop} (ht : IsTup s.heap t items) (hs : s.heap.IsSliceOf sl vl vu .none) (pl : IsPart vl lo) (pu : IsPart vu hi)
    (hw : ¬ (sIx items.size 0 lo = 0 ∧ sIx items.size items.size hi = items.size))
    (h : Q (.ref s.heap.objs.size) { s with heap := s.heap.push { cls := .type "tuple", data := .seq ((items.toList.drop (sIx items.size 0 lo)).take (sIx items.size items.size hi - sIx items.size 0 lo)).toArray } })
    (hsz : items.size ≤ sizeLine) : wpAny (model prog w) A (getItem (.ref t) (.ref sl)) Q E s := by
  have htake : sizeOk (.seq ((items.toList.drop (sIx items.size 0 lo)).take (sIx items.size items.size hi - sIx items.size 0 lo)).toArray) := by
    show ((items.toList.drop (sIx items.size 0 lo)).take (sIx items.size items.size hi - sIx items.size 0 lo)).toArray.size ≤ sizeLine
    rw [List.size_toArray, List.length_take, List.length_drop, Array.length_toList]
    omega
  have hj : sIx items.size items.size hi ≤ items.size := sIx_le _ _ (Nat.le_refl _) hi
  obtain ⟨os, hos, hcs, hds⟩ := id hs
  have hTs : s.TypeIs (.ref sl) "slice" := ⟨os, hos, hcs⟩
  unfold getItem
  try with_reducible refine wpAny_holding ?_
  first | refine wpAny_bind (wpAny_pure ?_) | skip
  refine wpAny_bind (wpAny_sequenceKey ht.typeIs (by decide) ?_)
  refine wpAny_bind (wpAny_callSpecial?_slot (name := Str.ofString "__getitem__") ht.typeIs PyProof.Rows.slot_tuple_getitem
    (wpAny_call_entry PyProof.Rows.slot_tuple_getitem ht.typeIs entry_tuple_getitem ?_ (args_tuple_getitem _ _)))
  show wpAny _ _ (Builtin.Tuple.tupleItemsOf (.ref t) >>= _) _ _ s
  refine wpAny_bind (tupleItemsOf_ ht ?_)
  refine wpAny_bind (wpAny_typeOf hTs ?_)
  rw [if_pos (by decide)]
  refine wpAny_bind (sliceApplied_gen hs pl pu ?_)
  have hno : ¬ ((((sIx items.size 0 lo : Nat) : Int) == 0 && (1 : Int) == 1 && (sIx items.size items.size hi - sIx items.size 0 lo) == items.size) = true) := by
    intro q
    rw [Bool.and_eq_true, Bool.and_eq_true] at q
    have q1 : ((sIx items.size 0 lo : Nat) : Int) = 0 := eq_of_beq q.1.1
    have q2 : sIx items.size items.size hi - sIx items.size 0 lo = items.size := eq_of_beq q.2
    exact hw ⟨by omega, by omega⟩
  show wpAny _ _ (if (((sIx items.size 0 lo : Nat) : Int) == 0 && (1 : Int) == 1 && (sIx items.size items.size hi - sIx items.size 0 lo) == items.size) = true then _ else _) _ _ s
  rw [if_neg hno, pick_gen]
  first
    | exact wpAny_bind (m := Builtin.Tuple.tupleExact _) (wpAny_newObj_type (wpAny_pure ⟨_, rfl, wpAny_pure h⟩) htake)
    | exact wpAny_bind (m := Builtin.Tuple.tupleExact _) (wpAny_newObj_type (wpAny_bind (wpAny_pure (wpAny_pure ⟨_, rfl, wpAny_pure h⟩))) htake)
    | exact wpAny_bind (wpAny_bind (m := Builtin.Tuple.tupleExact _) (wpAny_newObj_type (wpAny_pure (wpAny_pure ⟨_, rfl, wpAny_pure h⟩)) htake))
    | exact wpAny_bind (wpAny_bind (m := Builtin.Tuple.tupleExact _) (wpAny_newObj_type (wpAny_pure ⟨_, rfl, wpAny_pure h⟩) htake))
end
end HT

namespace L2
open PySem PySem.Spec PyProof.Rows

/-! ### the parts of a slice -/
abbrev TO := St → Hp → (Option Int → Hp → Prop) → Prop
/-- a slice's part (left out, or an int) -/
def PO (X : Cx) (e : Option Expr) (t : TO) : Prop :=
  ∀ (pins : List (Addr × Obj)) (s : Shared) (σ : St) (H : Hp) (Q : Option Int → Hp → Prop), Inv X pins σ H s → t σ H Q →
    wpAny (model X.prog X.w) X.A (evalPart e X.env) (fun u s' => ∃ o H', Inv X pins σ H' s' ∧ IsPart u o ∧ Q o H') X.xe s
def tNoPart : TO := fun _ H Q => Q none H
def tPart (t : TE) : TO := fun σ H Q => t σ H fun x H1 => ∃ i, x = .int i ∧ Q (some i) H1

theorem intsAre_of {ns : List Int} : ∀ {us : List Value}, Vals (ns.map V.int) us → IntsAre us ns := by
  induction ns with
  | nil => intro us r; rw [List.map_nil] at r; cases r; exact .nil
  | cons n ns ih =>
    intro us r
    rw [List.map_cons] at r
    cases r with
    | cons r1 r2 =>
      obtain ⟨t, e⟩ := r1
      subst e
      exact .cons n t (ih r2)

section
variable {X : Cx} {e : Expr} {te : TE} {lo hi : Option Expr} {tl th : TO} {pos p2 : Pos}

theorem po_none : PO X none tNoPart := by
  intro pins s σ H Q I h
  rw [evalPart_none]
  exact wpAny_pure ⟨none, H, I, .none, h⟩
theorem po_some (h : PE X e te) : PO X (some e) (tPart te) := by
  intro pins s σ H Q I hw
  rw [evalPart_some]
  refine thn (h pins s σ H _ I hw) fun u s1 ⟨x, H1, I1, r1, q1⟩ => ?_
  obtain ⟨i, rfl, q⟩ := q1
  obtain ⟨t, rfl⟩ := r1
  exact ⟨some i, H1, I1, .int i t, q⟩

/-- what a slice of a value is, by values: the slice object stands at sl -/
def SlR (X : Cx) (r : V → Option Int → Option Int → Hp → VK → Prop) : Prop :=
  ∀ (pins : List (Addr × Obj)) (s : Shared) (σ : St) (H : Hp) (x : V) (v vl vu : Value) (lo hi : Option Int) (sl : Addr) (Q : VK), Inv X pins σ H s → RelV x v → s.heap.IsSliceOf sl vl vu .none → IsPart vl lo → IsPart vu hi → r x lo hi H Q →
    ∃ T id, typeLookup (.type T) "__getitem__" = pure (some (.builtin id)) ∧ s.TypeIs v T ∧ wpAny (model X.prog X.w) X.A (getItem v (.ref sl)) (EP X pins σ Q) X.xe s
theorem SlR.or {r r' : V → Option Int → Option Int → Hp → VK → Prop} (h : SlR X r) (h' : SlR X r') : SlR X (fun x lo hi H Q => r x lo hi H Q ∨ r' x lo hi H Q) := by
  intro pins s σ H x v vl vu lo hi sl Q I rx hs pl pu q
  rcases q with q | q
  · exact h pins s σ H x v vl vu lo hi sl Q I rx hs pl pu q
  · exact h' pins s σ H x v vl vu lo hi sl Q I rx hs pl pu q
def tSl (r : V → Option Int → Option Int → Hp → VK → Prop) (te : TE) (tl th : TO) : TE := fun σ H Q => te σ H fun x H1 => tl σ H1 fun l H2 => th σ H2 fun u H3 => r x l u H3 Q
/-- a[lo:hi], any a -/
theorem pe_slice {r : V → Option Int → Option Int → Hp → VK → Prop} (hr : SlR X r) (he : PE X e te) (hl : PO X lo tl) (hu : PO X hi th) : PE X (.Subscript e (.Slice lo hi none p2) pos) (tSl r te tl th) := by
  intro pins s σ H Q I h
  refine Subscript_ (thn (he pins s σ H _ I h) fun v s1 ⟨x, H1, I1, r1, q1⟩ => ?_)
  refine wpAny_Slice (thn (hl pins s1 σ H1 _ I1 q1) fun vl s2 ⟨l, H2, I2, pl, q2⟩ => thn (hu pins s2 σ H2 _ I2 q2) fun vu s3 ⟨u, H3, I3, pu, q3⟩ => ?_)
  rw [evalPart_none]
  refine wpAny_pure ?_
  have I4 : Inv X pins σ H3 { s3 with heap := s3.heap.push { cls := .type "slice", data := .fields #[vl, vu, .none] } } := I3.kept (t' := s3.toks) fun b ob q => Heap.get?_push_of_some _ q
  obtain ⟨T, id, hT, ht, hg⟩ := hr pins { s3 with heap := s3.heap.push { cls := .type "slice", data := .fields #[vl, vu, .none] } } σ H3 x v vl vu l u s3.heap.objs.size Q I4 r1 (Heap.IsSliceOf.new ..) pl pu q3
  show wpAny (model X.prog X.w) X.A (subscriptTail e (.Slice lo hi none p2) v (.ref s3.heap.objs.size)) (EP X pins σ Q) X.xe { s3 with heap := s3.heap.push { cls := .type "slice", data := .fields #[vl, vu, .none] } }
  exact tail_any (ops := [.ref s3.heap.objs.size, v]) ht hT hg (by with_unfolding_all rfl)

/-- the items of xs[lo:hi] -/
def cutV (xs : List V) (lo hi : Option Int) : List V := (xs.drop (HT.sIx xs.length 0 lo)).take (HT.sIx xs.length xs.length hi - HT.sIx xs.length 0 lo)
theorem cutV_length (xs : List V) (lo hi : Option Int) : (cutV xs lo hi).length ≤ xs.length := by
  unfold cutV
  rw [List.length_take, List.length_drop]
  omega
/-- t[lo:hi], not the whole of it (the whole would be t itself) -/
def rSlT (K : PySem.W.Frag) : V → Option Int → Option Int → Hp → VK → Prop := fun x lo hi H Q => ∃ a xs, x = .ref a ∧ SqT K H a xs ∧
  ¬ (HT.sIx xs.length 0 lo = 0 ∧ HT.sIx xs.length xs.length hi = xs.length) ∧ ∀ p, H p = none → Q (.ref p) (upd H p (.tup (cutV xs lo hi)))
theorem sl_tup : SlR X (rSlT X.K) := by
  intro pins s σ H x v vl vu lo hi sl Q I rx hs pl pu h
  obtain ⟨a, xs, rfl, hx, hw, q⟩ := h
  cases rx
  obtain ⟨its, r, ht, hz⟩ := I.tuple hx
  have hlen : its.toArray.size = xs.length := by rw [List.size_toArray]; exact r.length.symm
  refine ⟨"tuple", _, PyProof.Rows.slot_tuple_getitem.lookup, ht.typeIs, ?_⟩
  refine HT.getItem_tuple_cut ht hs pl pu (by rw [hlen]; exact hw) ?_ (by rw [hlen]; exact hz)
  rw [hlen]
  refine ⟨.ref s.heap.objs.size, _, I.laid (t' := s.toks) (o := .tup (cutV xs lo hi)) (fun b ob q => Heap.get?_push_of_some _ q) (Nat.le_refl _) ?_, rfl, q _ (I.hok.fresh (Nat.le_refl _))⟩
  exact ⟨Nat.le_trans (cutV_length xs lo hi) hz, _, (r.drop (HT.sIx xs.length 0 lo)).take (HT.sIx xs.length xs.length hi - HT.sIx xs.length 0 lo), TupN.new _ _⟩

/-! ### t < u, t + u -/
def rLtT (K : PySem.W.Frag) : R2 := fun x y H Q => ∃ a b ns ms, x = .ref a ∧ y = .ref b ∧ SqT K H a (ns.map V.int) ∧ SqT K H b (ms.map V.int) ∧ Q (.bl (HT.lexLt ns ms)) H
theorem op_ltT (hu : X.A.units < cLine) : OpR X (compareOp .Lt) (rLtT X.K) := by
  intro pins s σ H x y v u Q I rx ry h
  obtain ⟨a, b, ns, ms, rfl, rfl, ha, hb, q⟩ := h
  cases rx
  cases ry
  obtain ⟨its, r1, p1, _⟩ := I.tuple ha
  obtain ⟨its2, r2, p2, _⟩ := I.tuple hb
  have i1 : IntsAre its.toArray.toList ns := intsAre_of r1
  have i2 : IntsAre its2.toArray.toList ms := intsAre_of r2
  exact HT.lt_tupInts p1 p2 i1 i2 hu ⟨.bl (HT.lexLt ns ms), H, I, rfl, q⟩
/-- t + u, t not empty: u empty gives t itself -/
def rCatT (K : PySem.W.Frag) : R2 := fun x y H Q => ∃ a b xs ys, x = .ref a ∧ y = .ref b ∧ SqT K H a xs ∧ SqT K H b ys ∧ xs ≠ [] ∧ xs.length + ys.length ≤ sizeLine ∧
  (ys = [] → Q (.ref a) H) ∧ (ys ≠ [] → ∀ p, H p = none → Q (.ref p) (upd H p (.tup (xs ++ ys))))
theorem Vals.nil_iff {xs : List V} {us : List Value} (r : Vals xs us) : us = [] ↔ xs = [] := by
  cases r with
  | nil => simp
  | cons _ _ => simp
theorem op_catT : OpR X (binaryOp .Add) (rCatT X.K) := by
  intro pins s σ H x y v u Q I rx ry h
  obtain ⟨a, b, xs, ys, rfl, rfl, ha, hb, hx, hz, q1, q2⟩ := h
  cases rx
  cases ry
  obtain ⟨its, r1, p1, _⟩ := I.tuple ha
  obtain ⟨its2, r2, p2, _⟩ := I.tuple hb
  refine HT.cat_tup p1 p2 (fun z => hx (r1.nil_iff.mp z)) (fun z => ⟨.ref a, H, I, rfl, q1 (r2.nil_iff.mp z)⟩) (fun z => ?_) (by rw [← r1.length, ← r2.length]; exact hz)
  refine ⟨.ref s.heap.objs.size, _, I.laid (t' := s.toks) (o := .tup (xs ++ ys)) (fun b ob q => Heap.get?_push_of_some _ q) (Nat.le_refl _) ?_, rfl, q2 (fun w => z (r2.nil_iff.mpr w)) _ (I.hok.fresh (Nat.le_refl _))⟩
  exact ⟨by rw [List.length_append]; exact hz, _, r1.append r2, TupN.new _ _⟩
/-- tuple(t) -/
theorem call_tupleT : CallR X (.type "tuple") (fun xs H Q => ∃ a ys, xs = [.ref a] ∧ SqT X.K H a ys ∧ Q (.ref a) H) := by
  intro pins s σ H xs us Q I r h
  obtain ⟨a, ys, rfl, ha, q⟩ := h
  obtain ⟨u, rfl, ru⟩ := vals1 r
  cases ru
  obtain ⟨its, _, p1, _⟩ := I.tuple ha
  exact call_tuple_same (items := its.toArray) p1 ⟨.ref a, H, I, rfl, q⟩
end
end L2

namespace L2
open PySem PySem.Spec PyProof.Rows

/-! ### places -/
/-- the place that an index of any sign means -/
def ixN (n : Nat) (i : Int) : Option Nat := if 0 ≤ i then (if i < n then some i.toNat else none) else if -(n : Int) ≤ i then some (i + n).toNat else none
def atI {α : Type} (xs : List α) (i : Int) : Option α := (ixN xs.length i).bind fun j => xs[j]?
theorem ixN_seq {n : Nat} {i : Int} {j : Nat} (h : ixN n i = some j) : seqIndex? i n = some j ∧ j < n ∧ -(n : Int) ≤ i ∧ i < n := by
  unfold ixN at h
  by_cases h0 : 0 ≤ i
  · rw [if_pos h0] at h
    by_cases h1 : i < n
    · rw [if_pos h1] at h
      have e : i.toNat = j := Option.some.inj h
      exact ⟨by rw [seqIndex_of h0 h1, e], by omega, by omega, h1⟩
    · rw [if_neg h1] at h; cases h
  · rw [if_neg h0] at h
    by_cases h1 : -(n : Int) ≤ i
    · rw [if_pos h1] at h
      have e : (i + n).toNat = j := Option.some.inj h
      exact ⟨by rw [seqIndex_neg (by omega) h1, e], by omega, h1, by omega⟩
    · rw [if_neg h1] at h; cases h
theorem atI_get {α : Type} {xs : List α} {i : Int} {v : α} (h : atI xs i = some v) : ∃ j, seqIndex? i xs.length = some j ∧ xs[j]? = some v ∧ j < xs.length ∧ -(xs.length : Int) ≤ i ∧ i < xs.length := by
  unfold atI at h
  cases e : ixN xs.length i with
  | none => rw [e] at h; cases h
  | some j =>
    rw [e] at h
    obtain ⟨h1, h2, h3, h4⟩ := ixN_seq e
    exact ⟨j, h1, h, h2, h3, h4⟩
theorem atI_nat {α : Type} {xs : List α} {j : Nat} {v : α} (h : xs[j]? = some v) : atI xs (j : Int) = some v := by
  have hj : j < xs.length := (List.getElem?_eq_some_iff.mp h).1
  have e : ixN xs.length (j : Int) = some j := by
    unfold ixN
    rw [if_pos (by omega), if_pos (by omega)]; simp
  unfold atI; rw [e]; exact h
theorem atI_last {α : Type} (xs : List α) (v : α) : atI (xs ++ [v]) (-1) = some v := by
  have hl : (xs ++ [v]).length = xs.length + 1 := by simp
  have e : ixN (xs ++ [v]).length (-1) = some xs.length := by
    unfold ixN
    rw [hl, if_neg (by decide), if_pos (by omega)]
    congr 1
    omega
  unfold atI
  rw [e]
  show (xs ++ [v])[xs.length]? = some v
  simp

/-! ### what may be subscripted -/
/-- what stands as an index of a plain subscript -/
def PlainIx (b : Expr) : Prop := ∀ o i, subscripted b false o i = operate [o, i] (getItem o i)
/-- a subscript by values -/
def IxR (X : Cx) (r : R2) : Prop :=
  ∀ (value slice : Expr) (pins : List (Addr × Obj)) (s : Shared) (σ : St) (H : Hp) (x y : V) (v u : Value) (Q : VK), Inv X pins σ H s → RelV x v → RelV y u → r x y H Q →
    subscripted slice false v u = operate [v, u] (getItem v u) → wpAny (model X.prog X.w) X.A (subscriptTail value slice v u) (EP X pins σ Q) X.xe s
/-- a call of a builtin's method by values: the receiver, the arguments -/
def MtR (X : Cx) (id : String) (r : V → List V → Hp → VK → Prop) : Prop :=
  ∀ (pins : List (Addr × Obj)) (s : Shared) (σ : St) (H : Hp) (x : V) (xs : List V) (v : Value) (us : List Value) (Q : VK), Inv X pins σ H s → RelV x v → Vals xs us → r x xs H Q →
    wpAny (model X.prog X.w) X.A (call (.builtin id) (v :: us)) (EP X pins σ Q) X.xe s
section
variable {X : Cx} {a b : Expr} {ta tb : TE} {pos : Pos}
theorem IxR.or {r r' : R2} (h : IxR X r) (h' : IxR X r') : IxR X (fun x y H Q => r x y H Q ∨ r' x y H Q) := by
  intro value slice pins s σ H x y v u Q I rx ry q hs
  rcases q with q | q
  · exact h value slice pins s σ H x y v u Q I rx ry q hs
  · exact h' value slice pins s σ H x y v u Q I rx ry q hs
theorem MtR.or {id : String} {r r' : V → List V → Hp → VK → Prop} (h : MtR X id r) (h' : MtR X id r') : MtR X id (fun x xs H Q => r x xs H Q ∨ r' x xs H Q) := by
  intro pins s σ H x xs v us Q I rx rs q
  rcases q with q | q
  · exact h pins s σ H x xs v us Q I rx rs q
  · exact h' pins s σ H x xs v us Q I rx rs q
/-- a[b] -/
theorem pe_ix {r : R2} (hr : IxR X r) (ha : PE X a ta) (hb : PE X b tb) (hs : PlainIx b) : PE X (.Subscript a b pos) (tOp r ta tb) := by
  intro pins s σ H Q I h
  exact Subscript_ (binT ha hb I h fun v u s2 x y H2 I2 rx ry q => hr a b pins s2 σ H2 x y v u Q I2 rx ry q (hs _ _))

def rIxL (K : PySem.W.Frag) : R2 := fun x y H Q => ∃ p xs i v, x = .ref p ∧ y = .int i ∧ SqL K H p xs ∧ atI xs i = some v ∧ Q v H
def rIxT (K : PySem.W.Frag) : R2 := fun x y H Q => ∃ p xs i v, x = .ref p ∧ y = .int i ∧ SqT K H p xs ∧ atI xs i = some v ∧ Q v H
def rIxS : R2 := fun x y H Q => ∃ z i c, x = .str z ∧ y = .int i ∧ z.length ≤ sizeLine ∧ atI z.cps.toList i = some c ∧ Q (.str ⟨#[c]⟩) H
theorem ix_list : IxR X (rIxL X.K) := by
  intro value slice pins s σ H x y v u Q I rx ry h hs
  obtain ⟨p, xs, i, z, rfl, rfl, hq, he, q⟩ := h
  cases rx
  obtain ⟨t, rfl⟩ := ry
  obtain ⟨its, r, pl, hz⟩ := I.list hq
  obtain ⟨j, h1, h2, h3, h4, h5⟩ := atI_get he
  obtain ⟨w, ew, rw'⟩ := r.get h2
  have hl := r.length
  have hn := line63
  have fin : EP X pins σ Q w s := ⟨z, H, I, rw', q⟩
  by_cases h0 : 0 ≤ i
  · have hj : i.toNat = j := by
      rw [seqIndex_of h0 h5] at h1
      exact Option.some.inj h1
    exact item_listR pl.isList h0 (by omega) (by rw [hj]; simpa using ew) fin hs
  · have hj : (i + (its.toArray.size : Int)).toNat = j := by
      rw [seqIndex_neg (by omega) h4] at h1
      rw [List.size_toArray, ← hl]
      exact Option.some.inj h1
    exact subscriptTail_builtinR (x := w) pl.isList.typeIs slot_list_getitem.lookup
      (wpAny_getItem_list_neg (Q := fun r s' => r = w ∧ EP X pins σ Q r s') pl.isList (by omega) (by rw [List.size_toArray] <;> omega) (by omega) (by rw [hj]; simpa using ew) ⟨rfl, fin⟩) hs
theorem ix_tup : IxR X (rIxT X.K) := by
  intro value slice pins s σ H x y v u Q I rx ry h hs
  obtain ⟨p, xs, i, z, rfl, rfl, hq, he, q⟩ := h
  cases rx
  obtain ⟨t, rfl⟩ := ry
  obtain ⟨its, r, pl, hz⟩ := I.tuple hq
  obtain ⟨j, h1, h2, h3, h4, h5⟩ := atI_get he
  obtain ⟨w, ew, rw'⟩ := r.get h2
  have hl := r.length
  have hn := line63
  have fin : EP X pins σ Q w s := ⟨z, H, I, rw', q⟩
  exact subscriptTail_builtinR (x := w) pl.typeIs slot_tuple_getitem.lookup
    (getItem_tuple (j := j) (Q := fun r s' => r = w ∧ EP X pins σ Q r s') pl (by omega) (by omega) (by rw [List.size_toArray, ← hl]; exact h1) (by simpa using ew) ⟨rfl, fin⟩) hs
theorem ix_str : IxR X rIxS := by
  intro value slice pins s σ H x y v u Q I rx ry h hs
  obtain ⟨z, i, c, rfl, rfl, hz, he, q⟩ := h
  obtain ⟨t, rfl⟩ := rx
  obtain ⟨t', rfl⟩ := ry
  obtain ⟨j, h1, h2, h3, h4, h5⟩ := atI_get he
  have hl : z.cps.toList.length = z.length := by simp [Str.length]
  rw [hl] at h1 h4 h5
  have hn := line63
  exact tail_any (typeIs_str s z t) slot_str_getitem.lookup (getItem_str (c := c) (by
    have e1 : decide (i < -(2 ^ 63 : Int)) = false := decide_eq_false (by omega)
    have e2 : decide (i ≥ 2 ^ 63) = false := decide_eq_false (by omega)
    rw [e1, e2, Bool.or_false]) (by rw [h1]; simpa using h2) ⟨.str ⟨#[c]⟩, H, I.tok _, ⟨_, rfl⟩, q⟩) hs
/-- list, tuple or str -/
def rIx (K : PySem.W.Frag) : R2 := fun x y H Q => rIxL K x y H Q ∨ rIxT K x y H Q ∨ rIxS x y H Q
theorem ix_seq : IxR X (rIx X.K) := ix_list.or (ix_tup.or ix_str)

/-! ### xs[i] = v, any sign -/
/-- the list's object behind a store -/
theorem mapSeq_set (its : List Value) (n j : Nat) (u : Value) : Obj.mapSeq (·.setIfInBounds j u) { cls := .type "list", data := .seq its.toArray n } = { cls := .type "list", data := .seq (its.set j u).toArray n } := by
  simp [Obj.mapSeq]
theorem Inv.lst {pins : List (Addr × Obj)} {σ : St} {H : Hp} {s : Shared} {p : Addr} {xs : List V} (I : Inv X pins σ H s) (h : H p = some (.lst xs)) :
    ∃ (its : List Value) (n : Nat), Vals xs its ∧ s.heap.get? p = some { cls := .type "list", data := .seq its.toArray n } ∧ xs.length ≤ sizeLine := by
  obtain ⟨z, its, n, r, e⟩ := I.hok p _ h
  exact ⟨its, n, r, e, z⟩
/-- the list at p is written by an update of its object -/
theorem Inv.lstUpd {pins : List (Addr × Obj)} {σ : St} {H : Hp} {s : Shared} {p : Addr} {xs ys : List V} {its its' : List Value} {n n' : Nat} {f : Obj → Obj} (I : Inv X pins σ H s) (h : H p = some (.lst xs))
    (ho : s.heap.get? p = some { cls := .type "list", data := .seq its.toArray n }) (hf : f { cls := .type "list", data := .seq its.toArray n } = { cls := .type "list", data := .seq its'.toArray n' }) (r : Vals ys its') (hz : ys.length ≤ sizeLine) (t : Nat) :
    Inv X pins σ (upd H p (.lst ys)) { s with heap := s.heap.update p f, toks := t } := by
  have e : (s.heap.update p f).get? p = some { cls := .type "list", data := .seq its'.toArray n' } := by
    rw [Heap.get?_update_self f ho (by rw [hf] <;> rfl), hf]
  refine I.write (x := p) (e := p) (by rw [h]; trivial) (.inl rfl) (fun b u hb q => (Heap.get?_update_other _ _ (Ne.symm hb)).trans q) ⟨_, e⟩ ?_
  exact ⟨hz, its', n', r, e⟩
def rSetL : V → V → V → Hp → (Hp → Prop) → Prop := fun o i v H Q => ∃ p xs k j, o = .ref p ∧ i = .int k ∧ H p = some (.lst xs) ∧ ixN xs.length k = some j ∧ Q (upd H p (.lst (xs.set j v)))
theorem set_list : PSet X rSetL := by
  intro pins s σ H o i v ov iv u Q I ro ri rv h
  obtain ⟨p, xs, k, j, rfl, rfl, hp, hj, q⟩ := h
  cases ro
  obtain ⟨t, rfl⟩ := ri
  obtain ⟨its, n, r, ho, hz⟩ := I.lst hp
  obtain ⟨h1, h2, h3, h4⟩ := ixN_seq hj
  have hl := r.length
  have hn := line63
  have I' : Inv X pins σ (upd H p (.lst (xs.set j v))) { s with heap := s.heap.update p (Obj.mapSeq (·.setIfInBounds j u)) } :=
    I.lstUpd hp ho (mapSeq_set its n j u) (r.set rv j) (by rw [List.length_set]; exact hz) s.toks
  by_cases h0 : 0 ≤ k
  · have hk : k.toNat = j := by
      rw [seqIndex_of h0 h4] at h1
      exact Option.some.inj h1
    exact PySem.W.ki_setAt ho h0 (by omega) (by rw [List.size_toArray, ← hl]; exact h4) (by rw [hk]; exact ⟨_, I', q⟩)
  · have hk : (k + (its.toArray.size : Int)).toNat = j := by
      rw [seqIndex_neg (by omega) h3] at h1
      rw [List.size_toArray, ← hl]
      exact Option.some.inj h1
    exact PySem.W.ki_setBack ho (by omega) (by rw [List.size_toArray, ← hl]; exact h3) (by omega) (by rw [hk]; exact ⟨_, I', q⟩)

/-! ### slices -/
theorem slice_bounds (lo hi : Option Int) (n : Nat) : (sliceBounds lo hi none n).1 = ((HT.sIx n 0 lo : Nat) : Int) ∧ (sliceBounds lo hi none n).2.1 = ((HT.sIx n n hi : Nat) : Int) ∧ (sliceBounds lo hi none n).2.2 = 1 := by
  refine ⟨?_, ?_, rfl⟩
  · cases lo with
    | none => simp [sliceBounds, HT.sIx]
    | some i =>
      simp only [sliceBounds, HT.sIx, Option.getD_none, show (1 : Int) > 0 by decide, if_true]
      by_cases h : i < 0
      · simp only [h, if_true] <;> omega
      · simp only [h, if_false] <;> omega
  · cases hi with
    | none => simp [sliceBounds, HT.sIx]
    | some i =>
      simp only [sliceBounds, HT.sIx, Option.getD_none, show (1 : Int) > 0 by decide, if_true]
      by_cases h : i < 0
      · simp only [h, if_true] <;> omega
      · simp only [h, if_false] <;> omega
theorem slicePick_cut (its : List Value) (lo hi : Option Int) : slicePick its.toArray lo hi none = ((its.drop (HT.sIx its.length 0 lo)).take (HT.sIx its.length its.length hi - HT.sIx its.length 0 lo)).toArray := by
  obtain ⟨h1, h2, h3⟩ := slice_bounds lo hi its.toArray.size
  unfold slicePick
  rw [h1, h2, h3]
  simp only [sliceRange_one, pick_run, List.size_toArray] <;> rfl
/-- xs[lo:hi] of a list: a new list -/
def rSlL (K : PySem.W.Frag) : V → Option Int → Option Int → Hp → VK → Prop := fun x lo hi H Q => ∃ a xs, x = .ref a ∧ SqL K H a xs ∧ ∀ p, H p = none → Q (.ref p) (upd H p (.lst (cutV xs lo hi)))
theorem sl_list : SlR X (rSlL X.K) := by
  intro pins s σ H x v vl vu lo hi sl Q I rx hs pl pu h
  obtain ⟨a, xs, rfl, hx, q⟩ := h
  cases rx
  obtain ⟨its, r, ht, hz⟩ := I.list hx
  have hlen := r.length
  refine ⟨"list", _, slot_list_getitem.lookup, ht.isList.typeIs, ?_⟩
  refine wpAny_getItem_list_slice ht.isList hs pl pu .none (by simp) ?_ (by rw [List.size_toArray] <;> omega)
  rw [slicePick_cut, ← hlen]
  refine ⟨.ref s.heap.objs.size, _, I.laid (t' := s.toks) (o := .lst (cutV xs lo hi)) (fun b ob q => Heap.get?_push_of_some _ q) (Nat.le_refl _) ?_, rfl, q _ (I.hok.fresh (Nat.le_refl _))⟩
  exact ⟨Nat.le_trans (cutV_length xs lo hi) hz, _, 0, (r.drop (HT.sIx xs.length 0 lo)).take (HT.sIx xs.length xs.length hi - HT.sIx xs.length 0 lo), Heap.get?_push_size _ rfl⟩

/-! ### in, not in: flat items -/
def flatV : V → Bool
  | .non => true
  | .bl _ => true
  | .int _ => true
  | .str _ => true
  | _ => false
/-- == of flat values -/
def eqV : V → V → Bool
  | .non, .non => true
  | .bl a, .bl b => a == b
  | .bl a, .int b => (if a then 1 else 0) == b
  | .int a, .bl b => a == (if b then 1 else 0)
  | .int a, .int b => a == b
  | .str a, .str b => a == b
  | _, _ => false
theorem eqAt_V {A : Around} {s : Shared} {y x : V} {u v : Value} (ry : RelV y u) (rx : RelV x v) (fy : flatV y = true) (fx : flatV x = true) : SeqAt.EqAt A s u v (eqV y x) := by
  cases y with
  | non =>
    cases ry
    cases x with
    | non => cases rx; exact SeqAt.EqAt.same _
    | bl b => cases rx; exact SeqAt.EqAt.none_bool b
    | int b => obtain ⟨t, rfl⟩ := rx; exact SeqAt.EqAt.none_int b t
    | str b => obtain ⟨t, rfl⟩ := rx; exact SeqAt.EqAt.none_str b t
    | _ => exact absurd (show false = true from fx) Bool.false_ne_true
  | bl a =>
    cases ry
    cases x with
    | non => cases rx; exact SeqAt.EqAt.bool_none a
    | bl b => cases rx; exact SeqAt.EqAt.bool_bool a b
    | int b => obtain ⟨t, rfl⟩ := rx; exact SeqAt.EqAt.bool_int a b t
    | str b => obtain ⟨t, rfl⟩ := rx; exact SeqAt.EqAt.bool_str a b t
    | _ => exact absurd (show false = true from fx) Bool.false_ne_true
  | int a =>
    obtain ⟨t', rfl⟩ := ry
    cases x with
    | non => cases rx; exact SeqAt.EqAt.int_none a t'
    | bl b => cases rx; exact SeqAt.EqAt.int_bool a t' b
    | int b => obtain ⟨t, rfl⟩ := rx; exact SeqAt.EqAt.int_int a t' b t
    | str b => obtain ⟨t, rfl⟩ := rx; exact SeqAt.EqAt.int_str a t' b t
    | _ => exact absurd (show false = true from fx) Bool.false_ne_true
  | str a =>
    obtain ⟨t', rfl⟩ := ry
    cases x with
    | non => cases rx; exact SeqAt.EqAt.str_none a t'
    | bl b => cases rx; exact SeqAt.EqAt.str_bool a t' b
    | int b => obtain ⟨t, rfl⟩ := rx; exact SeqAt.EqAt.str_int a t' b t
    | str b => obtain ⟨t, rfl⟩ := rx; exact SeqAt.EqAt.str_str a t' b t
    | _ => exact absurd (show false = true from fx) Bool.false_ne_true
  | _ => exact absurd (show false = true from fy) Bool.false_ne_true
/-- the items' answers, read off the values (a value's own answer does not lean on its token) -/
def eqU (x : V) (u : Value) : Bool := match u with
  | .none => eqV .non x
  | .bool b => eqV (.bl b) x
  | .int i _ => eqV (.int i) x
  | .str z _ => eqV (.str z) x
  | _ => false
theorem eqU_of {x y : V} {u : Value} (r : RelV y u) (f : flatV y = true) : eqU x u = eqV y x := by
  cases y with
  | non => cases r; rfl
  | bl b => cases r; rfl
  | int i => obtain ⟨t, rfl⟩ := r; rfl
  | str z => obtain ⟨t, rfl⟩ := r; rfl
  | _ => exact absurd (show false = true from f) Bool.false_ne_true
theorem any_eqU {x : V} : ∀ {xs : List V} {us : List Value}, Vals xs us → xs.all flatV = true → us.any (eqU x) = xs.any fun y => eqV y x
  | _, _, .nil, _ => rfl
  | y :: xs, u :: us, .cons r t, f => by
    rw [List.all_cons, Bool.and_eq_true] at f
    rw [List.any_cons, List.any_cons, eqU_of r f.1, any_eqU t f.2]
theorem mem_eqAt {A : Around} {s : Shared} {x : V} {v : Value} (rx : RelV x v) (fx : flatV x = true) : ∀ {xs : List V} {us : List Value}, Vals xs us → xs.all flatV = true → ∀ u ∈ us, SeqAt.EqAt A s u v (eqU x u)
  | _, _, .nil, _ => fun u hu => by cases hu
  | y :: xs, u :: us, .cons r t, f => fun u' hu => by
    rw [List.all_cons, Bool.and_eq_true] at f
    rcases List.mem_cons.mp hu with rfl | hu
    · rw [eqU_of r f.1]; exact eqAt_V r rx f.1 fx
    · exact mem_eqAt rx fx t f.2 u' hu
def inV (x : V) (xs : List V) : Bool := xs.any fun y => eqV y x
/-- x in a list or tuple of flat items -/
def rIn (K : PySem.W.Frag) (neg : Bool) : R2 := fun x y H Q => ∃ p xs, y = .ref p ∧ (SqL K H p xs ∨ SqT K H p xs) ∧ flatV x = true ∧ xs.all flatV = true ∧ Q (.bl (if neg then !inV x xs else inV x xs)) H
theorem op_in_seq : OpR X (compareOp .In) (rIn X.K false) := by
  intro pins s σ H x y v u Q I rx ry h
  obtain ⟨p, xs, rfl, hq, fx, fs, q⟩ := h
  cases ry
  rcases hq with hq | hq
  · obtain ⟨its, r, pl, hz⟩ := I.list hq
    refine SeqAt.in_listAt (eqU x) pl.isList (fun w hw => mem_eqAt rx fx r fs w (by simpa using hw)) ⟨.bl _, H, I, rfl, ?_⟩
    rw [show its.toArray.any (eqU x) = its.any (eqU x) by simp, any_eqU r fs]
    exact q
  · obtain ⟨its, r, pl, hz⟩ := I.tuple hq
    refine SeqAt.in_tupleAt (eqU x) pl (fun w hw => mem_eqAt rx fx r fs w (by simpa using hw)) ⟨.bl _, H, I, rfl, ?_⟩
    rw [show its.toArray.any (eqU x) = its.any (eqU x) by simp, any_eqU r fs]
    exact q
theorem op_notIn_seq : OpR X (compareOp .NotIn) (rIn X.K true) := by
  intro pins s σ H x y v u Q I rx ry h
  obtain ⟨p, xs, rfl, hq, fx, fs, q⟩ := h
  cases ry
  rcases hq with hq | hq
  · obtain ⟨its, r, pl, hz⟩ := I.list hq
    refine SeqAt.notIn_listAt (eqU x) pl.isList (fun w hw => mem_eqAt rx fx r fs w (by simpa using hw)) ⟨.bl _, H, I, rfl, ?_⟩
    rw [show its.toArray.any (eqU x) = its.any (eqU x) by simp, any_eqU r fs]
    exact q
  · obtain ⟨its, r, pl, hz⟩ := I.tuple hq
    refine SeqAt.notIn_tupleAt (eqU x) pl (fun w hw => mem_eqAt rx fx r fs w (by simpa using hw)) ⟨.bl _, H, I, rfl, ?_⟩
    rw [show its.toArray.any (eqU x) = its.any (eqU x) by simp, any_eqU r fs]
    exact q
theorem op_notIn_str : OpR X (compareOp .NotIn) (fun x y H Q => ∃ i j, x = .str i ∧ y = .str j ∧ Q (.bl (!(!(Builtin.Str.occurrences j i 0 j.length 1).isEmpty))) H) := by
  intro pins s σ H x y v u Q I rx ry h
  obtain ⟨i, j, rfl, rfl, q⟩ := h
  obtain ⟨t, rfl⟩ := rx
  obtain ⟨t', rfl⟩ := ry
  exact notIn_str ⟨.bl _, H, I, rfl, q⟩

/-! ### len, list(x), tuple(x) of any list or tuple that is read -/
theorem call_len_seq : CallR X (.builtin "len") (fun xs H Q => ∃ p ys, xs = [.ref p] ∧ (SqL X.K H p ys ∨ SqT X.K H p ys) ∧ Q (.int ys.length) H) := by
  intro pins s σ H xs us Q I r h
  obtain ⟨p, ys, rfl, hq, q⟩ := h
  obtain ⟨u, rfl, rx⟩ := vals1 r
  cases rx
  have hn := line63
  rcases hq with hq | hq
  · obtain ⟨its, r', pl, hz⟩ := I.list hq
    have hlen := r'.length
    exact Calls.call_len_list pl.isList (by simp only [List.size_toArray] <;> omega) ⟨.int ys.length, H, I.tok _, ⟨s.toks + 1, by rw [List.size_toArray, hlen]⟩, q⟩
  · obtain ⟨its, r', pl, hz⟩ := I.tuple hq
    have hlen := r'.length
    exact len_tuple pl (by simp only [List.size_toArray] <;> omega) ⟨.int ys.length, H, I.tok _, ⟨s.toks + 1, by rw [List.size_toArray, hlen]⟩, q⟩
theorem call_len_str : CallR X (.builtin "len") (fun xs H Q => ∃ z, xs = [.str z] ∧ z.length ≤ sizeLine ∧ Q (.int z.length) H) := by
  intro pins s σ H xs us Q I r h
  obtain ⟨z, rfl, hz, q⟩ := h
  obtain ⟨u, rfl, t, rfl⟩ := vals1 r
  have hn := line63
  exact len_str (by omega) ⟨.int z.length, H, I.tok _, ⟨_, rfl⟩, q⟩
theorem CallR.or {f : Value} {r r' : List V → Hp → VK → Prop} (h : CallR X f r) (h' : CallR X f r') : CallR X f (fun xs H Q => r xs H Q ∨ r' xs H Q) := by
  intro pins s σ H xs us Q I rs q
  rcases q with q | q
  · exact h pins s σ H xs us Q I rs q
  · exact h' pins s σ H xs us Q I rs q
theorem call_list_of : CallR X (.type "list") (fun xs H Q => ∃ p ys, xs = [.ref p] ∧ (SqL X.K H p ys ∨ SqT X.K H p ys) ∧ ∀ l, H l = none → Q (.ref l) (upd H l (.lst ys))) := by
  intro pins s σ H xs us Q I r h
  obtain ⟨p, ys, rfl, hq, q⟩ := h
  obtain ⟨u, rfl, rx⟩ := vals1 r
  cases rx
  have fin : ∀ (its : List Value), Vals ys its → ys.length ≤ sizeLine → ∀ (h' : Heap) (c' : Nat), (∀ b o', s.heap.get? b = some o' → h'.get? b = some o') →
      h'.get? s.heap.objs.size = some { cls := .type "list", dict := none, data := .seq its.toArray c', slots := #[] } → EP X pins σ Q (.ref s.heap.objs.size) { s with heap := h' } := fun its r' hz h' c' kp e =>
    ⟨.ref s.heap.objs.size, _, I.laid (t' := s.toks) kp (Nat.le_refl _) (show ObjOk X.prog X.w _ h' _ (.lst ys) from ⟨hz, its, c', r', e⟩), rfl, q _ (I.hok.fresh (Nat.le_refl _))⟩
  rcases hq with hq | hq
  · obtain ⟨its, r', pl, hz⟩ := I.list hq
    have hlen := r'.length
    obtain ⟨o, ho, hc, n, hd⟩ := pl.isList
    exact call_list_seq p (.inl rfl) ho hc hd (fun h' c' kp e => fin its r' hz h' c' kp e) (by simp only [List.size_toArray] <;> omega)
  · obtain ⟨its, r', pl, hz⟩ := I.tuple hq
    have hlen := r'.length
    obtain ⟨o, ho, hc, n, hd⟩ := pl
    exact call_list_seq p (.inr rfl) ho hc hd (fun h' c' kp e => fin its r' hz h' c' kp e) (by simp only [List.size_toArray] <;> omega)
theorem call_tuple_of : CallR X (.type "tuple") (fun xs H Q => ∃ p ys, xs = [.ref p] ∧ ((SqL X.K H p ys ∧ ∀ l, H l = none → Q (.ref l) (upd H l (.tup ys))) ∨ (SqT X.K H p ys ∧ Q (.ref p) H))) := by
  intro pins s σ H xs us Q I r h
  obtain ⟨p, ys, rfl, h⟩ := h
  obtain ⟨u, rfl, rx⟩ := vals1 r
  cases rx
  rcases h with ⟨hq, q⟩ | ⟨hq, q⟩
  · obtain ⟨its, r', pl, hz⟩ := I.list hq
    have hlen := r'.length
    refine call_tuple_list pl.isList (fun h' kp => ?_) (by simp only [List.size_toArray] <;> omega)
    have I1 : Inv X pins σ H { s with heap := h' } := I.kept (t' := s.toks) kp
    have I2 : Inv X pins σ (upd H h'.objs.size (.tup ys)) { s with heap := h'.push { cls := .type "tuple", data := .seq its.toArray } } :=
      I1.laid (t' := s.toks) (fun b o e => Heap.get?_push_of_some _ e) (Nat.le_refl _) (show ObjOk X.prog X.w _ _ _ (.tup ys) from ⟨hz, its, r', TupN.new _ _⟩)
    exact ⟨.ref h'.objs.size, _, I2, rfl, q _ (I1.hok.fresh (Nat.le_refl _))⟩
  · obtain ⟨its, r', pl, hz⟩ := I.tuple hq
    exact call_tuple_same pl ⟨.ref p, H, I, rfl, q⟩

/-! ### the call of a builtin's method: o.m(..) -/
/-- the value is of that builtin type -/
def tyV (K : PySem.W.Frag) (T : String) (x : V) (H : Hp) : Prop := match x with
  | .str _ => T = "str"
  | .int _ => T = "int"
  | .ref p => (T = "list" ∧ ∃ xs, SqL K H p xs) ∨ (T = "tuple" ∧ ∃ o, K.lookup p = some o ∧ o.cls = .type "tuple" ∧ o.dict = none) ∨
      (T = "dict" ∧ ((∃ kvs, H p = some (.dK kvs)) ∨ ∃ kvs, H p = some (.dT kvs))) ∨ (T = "set" ∧ ∃ S n, H p = some (.set S n))
  | _ => False
theorem tyV_is {pins : List (Addr × Obj)} {σ : St} {H : Hp} {s : Shared} {T : String} {x : V} {v : Value} (I : Inv X pins σ H s) (r : RelV x v) (ty : tyV X.K T x H) :
    s.TypeIs v T ∧ ∀ a, v = .ref a → ∃ ob, s.heap.get? a = some ob ∧ ob.dict = none := by
  cases x with
  | str z =>
    obtain ⟨t, rfl⟩ := r
    cases (show T = "str" from ty)
    exact ⟨typeIs_str s z t, fun _ e => nomatch e⟩
  | int i =>
    obtain ⟨t, rfl⟩ := r
    cases (show T = "int" from ty)
    exact ⟨typeIs_int s i t, fun _ e => nomatch e⟩
  | ref p =>
    cases r
    rcases ty with ⟨rfl, xs, hq⟩ | ⟨rfl, o, hk, hc, hd⟩ | ⟨rfl, hk⟩ | ⟨rfl, S, n, hk⟩
    · obtain ⟨its, _, pl, _⟩ := I.list hq
      refine ⟨pl.isList.typeIs, fun a e => ?_⟩
      cases e
      obtain ⟨o, n, e, c, hd, _⟩ := pl
      exact ⟨o, e, hd⟩
    · refine ⟨⟨o, I.kIn p o hk, hc⟩, fun a e => ?_⟩
      cases e
      exact ⟨o, I.kIn _ o hk, hd⟩
    · have z : ∃ o, s.heap.get? p = some o ∧ o.ExactDict := by
        rcases hk with ⟨kvs, hk⟩ | ⟨kvs, hk⟩
        · obtain ⟨_, _, _, _, o, _, _, e, ex, _⟩ := I.hok p _ hk
          exact ⟨o, e, ex⟩
        · obtain ⟨_, _, _, _, o, _, _, e, ex, _⟩ := I.hok p _ hk
          exact ⟨o, e, ex⟩
      obtain ⟨o, e, ex⟩ := z
      refine ⟨⟨o, e, ex.1⟩, fun a e2 => ?_⟩
      cases e2
      exact ⟨o, e, ex.2.1⟩
    · obtain ⟨o, _, _, _, e, ex, _⟩ := I.hok p _ hk
      refine ⟨⟨o, e, ex.1⟩, fun a e2 => ?_⟩
      cases e2
      exact ⟨o, e, ex.2.1⟩
  | _ => exact False.elim ty
def tBM0 (K : PySem.W.Frag) (T : String) (r : V → List V → Hp → VK → Prop) (to : TE) : TE := fun σ H Q => to σ H fun x H1 => tyV K T x H1 ∧ r x [] H1 Q
def tBM (K : PySem.W.Frag) (T : String) (r : V → List V → Hp → VK → Prop) (to : TE) (t : TA) : TE := fun σ H Q => to σ H fun x H1 => tyV K T x H1 ∧ t σ H1 fun xs H2 => r x xs H2 Q
variable {o e : Expr} {es : List Expr} {to : TE} {t : TA} {name : Str} {apos cpos : Pos} {T id : String} {r : V → List V → Hp → VK → Prop}
theorem pe_bm0 (pa : PlainAttrs T) (slot : Slot T name id) (hty : typeOf (.builtin id) = pure (.type "method_descriptor")) (hm : MtR X id r) (ho : PE X o to)
    (hbase : attributeBase o name X.env (eval o X.env) = eval o X.env := by rfl) (hline : (apos.endLine == cpos.line) = true := by rfl) : PE X (.Call (.Attribute o name apos) [] [] cpos) (tBM0 X.K T r to) := by
  intro pins s σ H Q I h
  refine wpAny_Call_method0_late hbase hline (thn (ho pins s σ H _ I h) fun v s1 ⟨x, H1, I1, r1, ty, q1⟩ => ?_)
  obtain ⟨h1, h2⟩ := tyV_is I1 r1 ty
  exact ⟨T, id, pa, slot, hty, h1, h2, Calls.callWith_builtin rfl (PySem.evalArgs_none (hm pins s1 σ H1 x [] v [] Q I1 r1 .nil q1))⟩
theorem pe_bm (pa : PlainAttrs T) (slot : Slot T name id) (hty : typeOf (.builtin id) = pure (.type "method_descriptor")) (hm : MtR X id r) (ho : PE X o to) (ha : PA X (e :: es) t)
    (hbase : attributeBase o name X.env (eval o X.env) = eval o X.env := by rfl)
    (hfew : ((backTo cpos (starEach (e :: es) X.env)).all (fun x => !x.1) && (backToKw cpos (keywordEach [] X.env)).all (fun x => x.1.isSome)
      && decide ((e :: es).length + ([] : List Keyword).length + (if ([] : List Keyword).isEmpty then 0 else 1) < 30)) = true := by rfl)
    (hline : (apos.endLine == cpos.line) = true := by rfl) (hs : starEach (e :: es) X.env = (false, eval e X.env) :: starEach es X.env := by rfl) (hplain : (backTo cpos (starEach es X.env)).any (·.1) = false := by rfl) :
    PE X (.Call (.Attribute o name apos) (e :: es) [] cpos) (tBM X.K T r to t) := by
  intro pins s σ H Q I h
  refine wpAny_Call_method_late hbase hfew hline rfl (thn (ho pins s σ H _ I h) fun v s1 ⟨x, H1, I1, r1, ty, q1⟩ => ?_)
  obtain ⟨h1, h2⟩ := tyV_is I1 r1 ty
  refine ⟨T, id, pa, slot, hty, h1, h2, ?_⟩
  have hA := ha cpos pins s1 σ H1 _ I1 q1
  rw [hs] at hA ⊢
  refine Calls.callWith_builtin (by show (false || (backTo cpos (starEach es X.env)).any (·.1)) = false; rw [hplain] <;> rfl) (Calls.evalArgs_plain ?_)
  exact thn hA fun us s2 ⟨vs, H2, I2, r2, q2⟩ => hm pins s2 σ H2 x vs v us Q I2 r1 r2 q2
/- xs.append(e), list.index on a module's tuple .. are MtR facts of 06m -/
end
end L2

namespace L2
open PySem PySem.Spec PyProof.Rows

def MtM (X : Cx) (id : String) (r : V → List V → Hp → VK → Prop) : Prop :=
  ∀ (pins : List (Addr × Obj)) (s : Shared) (σ : St) (H : Hp) (x : V) (xs : List V) (v : Value) (us : List Value) (Q : VK), Inv X pins σ H s → RelV x v → Vals xs us → r x xs H Q →
    wpAny (model X.prog X.w) X.A (call (.builtin id) (v :: us)) (EP X pins σ Q) X.xe s

/-! ### lists of values -/
theorem Vals.one : ∀ {x : V} {us : List Value}, Vals [x] us → ∃ u, us = [u] ∧ RelV x u
  | _, _, .cons r .nil => ⟨_, rfl, r⟩
theorem Vals.two : ∀ {x y : V} {us : List Value}, Vals [x, y] us → ∃ u v, us = [u, v] ∧ RelV x u ∧ RelV y v
  | _, _, _, .cons r (.cons q .nil) => ⟨_, _, rfl, r, q⟩
theorem Vals.zero : ∀ {us : List Value}, Vals [] us → us = []
  | _, .nil => rfl
theorem Vals.dropLast {xs : List V} {us : List Value} (h : Vals xs us) : Vals xs.dropLast us.dropLast := by
  induction h with
  | nil => exact .nil
  | cons r t ih =>
    cases t with
    | nil => exact .nil
    | cons q t' => exact .cons r ih
theorem Vals.eraseIdx : ∀ {xs : List V} {us : List Value} (i : Nat), Vals xs us → Vals (xs.eraseIdx i) (us.eraseIdx i)
  | _, _, _, .nil => .nil
  | _, _, 0, .cons _ t => t
  | _, _, i + 1, .cons r t => .cons r (Vals.eraseIdx i t)
theorem Vals.reverse {xs : List V} {us : List Value} (h : Vals xs us) : Vals xs.reverse us.reverse := by
  induction h with
  | nil => exact .nil
  | cons r t ih => rw [List.reverse_cons, List.reverse_cons]; exact Vals.append ih (.cons r .nil)
theorem Vals.rep {xs : List V} {us : List Value} (h : Vals xs us) : ∀ k : Nat, Vals (List.replicate k xs).flatten (List.replicate k us).flatten
  | 0 => .nil
  | k + 1 => by
    rw [List.replicate_succ, List.replicate_succ, List.flatten_cons, List.flatten_cons]
    exact Vals.append h (Vals.rep h k)
theorem erase_last {α : Type} (l : List α) : l.eraseIdx (l.length - 1) = l.dropLast := by
  induction l with
  | nil => rfl
  | cons a r ih =>
    cases r with
    | nil => rfl
    | cons b r =>
      have e : (a :: b :: r).length - 1 = ((b :: r).length - 1) + 1 := by
        have h1 : (a :: b :: r).length = r.length + 2 := rfl
        have h2 : (b :: r).length = r.length + 1 := rfl
        omega
      rw [e, List.eraseIdx_cons_succ, ih]
      all_goals rfl
theorem len_erase {α : Type} : ∀ (l : List α) (i : Nat), (l.eraseIdx i).length ≤ l.length
  | [], _ => Nat.le_refl _
  | _ :: _, 0 => Nat.le_succ _
  | _ :: r, i + 1 => Nat.succ_le_succ (len_erase r i)
theorem foldl_rep (its : List Value) : ∀ (k : Nat) (acc : List Value),
    List.foldl (fun x1 x2 => x1 ++ x2) acc.toArray (List.replicate k its.toArray) = (acc ++ (List.replicate k its).flatten).toArray
  | 0, acc => by simp
  | k + 1, acc => by
    have e : acc.toArray ++ its.toArray = (acc ++ its).toArray := by simp
    have e2 : (acc ++ its) ++ (List.replicate k its).flatten = acc ++ (List.replicate (k + 1) its).flatten := by
      rw [List.replicate_succ, List.flatten_cons, List.append_assoc]
    rw [← e2, ← foldl_rep its k (acc ++ its), ← e, List.replicate_succ, List.foldl_cons]

section
variable {X : Cx} {pins : List (Addr × Obj)} {σ : St} {H : Hp} {s : Shared} {l b : Addr} {xs ys zs : List V}

/-! ### the two steps: a tracked list is rewritten, a new list is laid -/
theorem Inv.lset {its its' : List Value} {n : Nat} {f : Array Value → Array Value} {t' : Nat} (I : Inv X pins σ H s) (hH : H l = some (.lst xs))
    (e : s.heap.get? l = some { cls := .type "list", data := .seq its.toArray n }) (hf : f its.toArray = its'.toArray) (hv : Vals ys its') (hz : ys.length ≤ sizeLine) :
    Inv X pins σ (upd H l (.lst ys)) { s with heap := s.heap.update l (Obj.mapSeq f), toks := t' } := by
  have q := PySem.IsL.update e f
  rw [hf] at q
  refine I.write (x := l) (e := l) (by rw [hH]; exact trivial) (.inl rfl) (fun b' u hb hu => (Heap.get?_update_other s.heap (Obj.mapSeq f) (Ne.symm hb)).trans hu) ⟨_, q⟩ ?_
  exact ⟨hz, its', _, hv, q⟩
theorem Inv.lnew {its : List Value} {t' : Nat} (I : Inv X pins σ H s) (hv : Vals ys its) (hz : ys.length ≤ sizeLine) :
    Inv X pins σ (upd H s.heap.objs.size (.lst ys)) { s with heap := s.heap.push { cls := .type "list", data := .seq its.toArray }, toks := t' } :=
  I.laid (fun _ _ q => Heap.get?_push_of_some _ q) (Nat.le_refl _) ⟨hz, its, 0, hv, Heap.get?_push_size _ rfl⟩
theorem Inv.fresh (I : Inv X pins σ H s) : H s.heap.objs.size = none := I.hok.fresh (Nat.le_refl _)
theorem Inv.lstM (I : Inv X pins σ H s) (hH : H l = some (.lst xs)) : xs.length ≤ sizeLine ∧ ∃ (its : List Value) (n : Nat), Vals xs its ∧ xs.length = its.length ∧ s.heap.get? l = some { cls := .type "list", data := .seq its.toArray n } := by
  obtain ⟨z, its, n, r, e⟩ := I.hok l _ hH
  exact ⟨z, its, n, r, r.length, e⟩

theorem notLongL {n : Nat} (h : n ≤ sizeLine) : Builtin.List.listTooLong n = false := by
  unfold Builtin.List.listTooLong
  exact decide_eq_false (by omega)
end

section
variable {X : Cx}

/-! ### methods -/
def rAppend : V → List V → Hp → VK → Prop := fun x vs H Q => ∃ l xs y, x = .ref l ∧ vs = [y] ∧ H l = some (.lst xs) ∧ xs.length < sizeLine ∧ Q .non (upd H l (.lst (xs ++ [y])))
theorem mt_append : MtM X "list.append" rAppend := by
  intro pins s σ H x vs v us Q I rx rv h
  obtain ⟨l, xs, y, rfl, rfl, hH, hz, q⟩ := h
  cases rx
  obtain ⟨u, rfl, ru⟩ := rv.one
  obtain ⟨z, its, n, r, hl, e⟩ := I.lstM hH
  refine call_meets F.slot_list_append ⟨_, e, rfl⟩ F.entry_list_append (F.args_list_append_2 _ _) (PySem.list_append l its.toArray n u (by rw [List.size_toArray]; omega)) ⟨e, ?_⟩
  refine ⟨.non, _, I.lset (its' := its ++ [u]) hH e (by simp) (r.append (.cons ru .nil)) ?_, rfl, q⟩
  rw [List.length_append, List.length_singleton]
  omega

def rExtend : V → List V → Hp → VK → Prop := fun x vs H Q => ∃ l b xs zs, x = .ref l ∧ vs = [.ref b] ∧ H l = some (.lst xs) ∧ H b = some (.lst zs) ∧ xs.length + zs.length ≤ sizeLine ∧ Q .non (upd H l (.lst (xs ++ zs)))
theorem mt_extend : MtM X "list.extend" rExtend := by
  intro pins s σ H x vs v us Q I rx rv h
  obtain ⟨l, b, xs, zs, rfl, rfl, hH, hB, hz, q⟩ := h
  cases rx
  obtain ⟨u, rfl, ru⟩ := rv.one
  cases ru
  obtain ⟨z, its, n, r, hl, e⟩ := I.lstM hH
  obtain ⟨z2, its2, n2, r2, hl2, e2⟩ := I.lstM hB
  have hsz : its.toArray.size + its2.toArray.size ≤ sizeLine := by rw [List.size_toArray, List.size_toArray]; omega
  have hlong : ¬ (!its.toArray.isEmpty && Builtin.List.listTooLong (its.toArray.size + its2.toArray.size)) = true := by
    rw [notLongL hsz, Bool.and_false]
    exact Bool.false_ne_true
  refine call_meets F.slot_list_extend ⟨_, e, rfl⟩ F.entry_list_extend (F.args_list_extend_2 _ _)
    (AutoSeq1.list_extend_list_list_0 l its.toArray n b its2.toArray n2 hlong (by rw [List.size_toArray]; omega) (by omega)) ⟨e, e2, ?_⟩
  refine ⟨.non, _, I.lset (its' := its ++ its2) hH e (by simp) (r.append r2) ?_, rfl, q⟩
  rw [List.length_append]
  omega

def rPop : V → List V → Hp → VK → Prop := fun x vs H Q => ∃ l xs y, x = .ref l ∧ vs = [] ∧ H l = some (.lst xs) ∧ xs[xs.length - 1]? = some y ∧ Q y (upd H l (.lst xs.dropLast))
theorem mt_pop : MtM X "list.pop" rPop := by
  intro pins s σ H x vs v us Q I rx rv h
  obtain ⟨l, xs, y, rfl, rfl, hH, hy, q⟩ := h
  cases rx
  have hus := rv.zero
  subst hus
  obtain ⟨z, its, n, r, hl, e⟩ := I.lstM hH
  obtain ⟨u, hu, ru⟩ := r.get hy
  have hy' : its.toArray[its.toArray.size - 1]? = some u := by
    show its.toArray[its.length - 1]? = some u
    rw [← Array.getElem?_toList, ← hl]
    exact hu
  refine call_meets F.slot_list_pop ⟨_, e, rfl⟩ F.entry_list_pop (F.args_list_pop_1 _) (MeetsSeq.list_pop_last l its.toArray n u hy' (by rw [List.size_toArray]; omega)) ⟨e, ?_⟩
  refine ⟨y, _, I.lset (its' := its.dropLast) hH e ?_ r.dropLast ?_, ru, q⟩
  · show its.toArray.eraseIdxIfInBounds (its.toArray.size - 1) = its.dropLast.toArray
    rw [List.size_toArray, List.eraseIdxIfInBounds_toArray, erase_last]
  · rw [List.length_dropLast]
    omega

def rPopAt : V → List V → Hp → VK → Prop := fun x vs H Q => ∃ l xs i k y, x = .ref l ∧ vs = [.int i] ∧ H l = some (.lst xs) ∧ -(2 ^ 63) ≤ i ∧ i < 2 ^ 63 ∧ seqIndex? i xs.length = some k ∧ xs[k]? = some y ∧ Q y (upd H l (.lst (xs.eraseIdx k)))
theorem mt_popAt : MtM X "list.pop" rPopAt := by
  intro pins s σ H x vs v us Q I rx rv h
  obtain ⟨l, xs, i, k, y, rfl, rfl, hH, h1, h2, hk, hy, q⟩ := h
  cases rx
  obtain ⟨u, rfl, ru⟩ := rv.one
  obtain ⟨t, rfl⟩ := ru
  obtain ⟨z, its, n, r, hl, e⟩ := I.lstM hH
  obtain ⟨w, hw, rw'⟩ := r.get hy
  refine call_meets F.slot_list_pop ⟨_, e, rfl⟩ F.entry_list_pop (F.args_list_pop_2 _ _)
    (MeetsSeq.list_pop_at l its.toArray n i t k w (fitsIndex_both h1 h2) (by rw [List.size_toArray, ← hl]; exact hk) (by rw [← Array.getElem?_toList]; exact hw) (by rw [List.size_toArray]; omega)) ⟨e, ?_⟩
  refine ⟨y, _, I.lset (its' := its.eraseIdx k) hH e ?_ (r.eraseIdx k) ?_, rw', q⟩
  · show its.toArray.eraseIdxIfInBounds k = (its.eraseIdx k).toArray
    rw [List.eraseIdxIfInBounds_toArray]
  · have := len_erase xs k
    omega

def rReverse : V → List V → Hp → VK → Prop := fun x vs H Q => ∃ l xs, x = .ref l ∧ vs = [] ∧ H l = some (.lst xs) ∧ Q .non (upd H l (.lst xs.reverse))
theorem mt_reverse : MtM X "list.reverse" rReverse := by
  intro pins s σ H x vs v us Q I rx rv h
  obtain ⟨l, xs, rfl, rfl, hH, q⟩ := h
  cases rx
  have hus := rv.zero
  subst hus
  obtain ⟨z, its, n, r, hl, e⟩ := I.lstM hH
  refine call_meets F.slot_list_reverse ⟨_, e, rfl⟩ F.entry_list_reverse (F.args_list_reverse_1 _) (AutoSeq1.list_reverse_list_0 l its.toArray n (by rw [List.size_toArray]; omega)) ⟨e, ?_⟩
  refine ⟨.non, _, I.lset (its' := its.reverse) hH e (by simp) r.reverse ?_, rfl, q⟩
  rw [List.length_reverse]
  omega

def rClear : V → List V → Hp → VK → Prop := fun x vs H Q => ∃ l xs, x = .ref l ∧ vs = [] ∧ H l = some (.lst xs) ∧ Q .non (upd H l (.lst []))
theorem mt_clear : MtM X "list.clear" rClear := by
  intro pins s σ H x vs v us Q I rx rv h
  obtain ⟨l, xs, rfl, rfl, hH, q⟩ := h
  cases rx
  have hus := rv.zero
  subst hus
  obtain ⟨z, its, n, r, hl, e⟩ := I.lstM hH
  refine call_meets F.slot_list_clear ⟨_, e, rfl⟩ F.entry_list_clear (F.args_list_clear_1 _) (AutoSeq1.list_clear_list_0 l its.toArray n (by rw [List.size_toArray]; omega)) ⟨e, ?_⟩
  exact ⟨.non, _, I.lset (its' := []) (ys := []) hH e rfl .nil (Nat.zero_le _), rfl, q⟩

/-! ### list + list, list += list, list * int -/
def rCat : R2 := fun x y H Q => ∃ l b xs zs, x = .ref l ∧ y = .ref b ∧ H l = some (.lst xs) ∧ H b = some (.lst zs) ∧ xs.length + zs.length ≤ sizeLine ∧ ∀ p, H p = none → Q (.ref p) (upd H p (.lst (xs ++ zs)))
theorem op_cat : OpR X (binaryOp .Add) rCat := by
  intro pins s σ H x y v u Q I rx ry h
  obtain ⟨l, b, xs, zs, rfl, rfl, hH, hB, hz, q⟩ := h
  cases rx
  cases ry
  obtain ⟨z, its, n, r, hl, e⟩ := I.lstM hH
  obtain ⟨z2, its2, n2, r2, hl2, e2⟩ := I.lstM hB
  refine PySem.P.add_list e e2 ?_ (by rw [List.size_toArray, List.size_toArray]; omega)
  have ea : its.toArray ++ its2.toArray = (its ++ its2).toArray := by simp
  rw [ea]
  exact ⟨.ref _, _, I.lnew (t' := s.toks) (r.append r2) (by rw [List.length_append]; omega), rfl, q _ I.fresh⟩
/-- a list times an int (a negative one is nothing) -/
def rRep : R2 := fun x y H Q => ∃ l k xs, x = .ref l ∧ y = .int k ∧ H l = some (.lst xs) ∧ -(2 ^ 63) ≤ k ∧ k < 2 ^ 63 ∧ xs.length * k.toNat ≤ sizeLine ∧
  ∀ p, H p = none → Q (.ref p) (upd H p (.lst (List.replicate k.toNat xs).flatten))
theorem len_rep {α : Type} (xs : List α) (k : Nat) : (List.replicate k xs).flatten.length = k * xs.length := by
  induction k with
  | zero => simp
  | succ k ih => rw [List.replicate_succ, List.flatten_cons, List.length_append, ih, Nat.succ_mul, Nat.add_comm]
theorem op_rep : OpR X (binaryOp .Mult) rRep := by
  intro pins s σ H x y v u Q I rx ry h
  obtain ⟨l, k, xs, rfl, rfl, hH, h1, h2, hz, q⟩ := h
  cases rx
  obtain ⟨t, rfl⟩ := ry
  obtain ⟨z, its, n, r, hl, e⟩ := I.lstM hH
  have hlen : its.toArray.size * k.toNat ≤ sizeLine := by rw [List.size_toArray, ← hl]; exact hz
  have hcap : ¬ its.toArray.size * k.toNat > (2 ^ 63 - 1) / 8 := by
    have : (sizeLine : Nat) ≤ (2 ^ 63 - 1) / 8 := by decide
    omega
  have hfit : ¬ (!Builtin.List.listFitsIndex k) = true := by
    rw [fitsIndex_both h1 h2]
    exact Bool.false_ne_true
  have hlong : ¬ Builtin.List.listTooLong (its.toArray.size * k.toNat) = true := by
    rw [notLongL hlen]
    exact Bool.false_ne_true
  have hnew : List.foldl (fun x1 x2 => x1 ++ x2) #[] (List.replicate (if its.toArray.isEmpty = true then 0 else k.toNat) its.toArray) = (List.replicate k.toNat its).flatten.toArray := by
    have f0 : ∀ m : Nat, List.foldl (fun x1 x2 => x1 ++ x2) #[] (List.replicate m its.toArray) = (List.replicate m its).flatten.toArray := fun m => by
      have := foldl_rep its m []
      rw [List.nil_append] at this
      exact this
    rw [f0]
    cases its with
    | nil => simp
    | cons a r' => rw [if_neg (by simp)]
  refine wpAny_binaryOp_repeat_ref (T := "list") (U := "int") (by decide) ⟨_, e, rfl⟩ (fun s' => typeIs_int s' k t) noFill_list_mul F.fills_int_mul F.slot_int_rmul repeat_list F.slot_int_index.lookup
    (call_meets F.slot_int_rmul (typeIs_int s k t) F.entry_int_rmul (F.args_int_rmul_2 _ _) (int___rmul___int_list k t l its.toArray n)
      ⟨e, rfl, ⟨_, e, rfl⟩, call_meets F.slot_list_mul ⟨_, e, rfl⟩ F.entry_list_mul (F.args_list_mul_2 _ _) (AutoListH.list___mul___list_int_3 l its.toArray n k t hfit hcap hlong) ⟨e, ?_⟩⟩)
  rw [hnew]
  exact ⟨.ref _, _, I.lnew (t' := s.toks) (r.rep k.toNat) (by rw [len_rep, Nat.mul_comm]; exact hz), rfl, q _ I.fresh⟩

/-! ### del xs[i] -/
theorem del_list {pins : List (Addr × Obj)} {s : Shared} {σ : St} {H : Hp} {l : Addr} {xs : List V} {i : Int} {t : Tok} {k : Nat} {Q : Unit → Shared → Prop} (I : Inv X pins σ H s) (hH : H l = some (.lst xs))
    (h1 : -(2 ^ 63) ≤ i) (h2 : i < 2 ^ 63) (hk : seqIndex? i xs.length = some k) (h : ∀ s', Inv X pins σ (upd H l (.lst (xs.eraseIdx k))) s' → Q () s') :
    wpAny (model X.prog X.w) X.A (delItem (.ref l) (.int i t)) Q X.xe s := by
  obtain ⟨z, its, n, r, hl, e⟩ := I.lstM hH
  refine PySem.P.delItem_list (k := k) e (fitsIndex_both h1 h2) (by rw [List.size_toArray, ← hl]; exact hk) (h _ ?_) (by rw [List.size_toArray]; omega)
  refine I.lset (its' := its.eraseIdx k) (t' := s.toks) hH e ?_ (r.eraseIdx k) ?_
  · show its.toArray.eraseIdxIfInBounds k = (its.eraseIdx k).toArray
    rw [List.eraseIdxIfInBounds_toArray]
  · have := len_erase xs k
    omega
end

/-! ### xs[a:b] = ys -/
section
variable {prog : Program} {w : World} {A : Around} {E : Value → Shared → Prop} {s : Shared}
theorem splice_eq (its its2 : List Value) (a c : Nat) : its.toArray.extract 0 a ++ its2.toArray ++ its.toArray.extract c its.toArray.size = (its.take a ++ its2 ++ its.drop c).toArray := by
  apply Array.toList_inj.mp
  first
    | (simp
       exact List.take_of_length_le (by simp))
    | simp [List.take_of_length_le]
    | simp
theorem bounds_run {a c n : Nat} (hac : a ≤ c) (hc : c ≤ n) : sliceBounds (some (a : Int)) (some (c : Int)) none n = ((a : Int), (c : Int), 1) := by
  simp only [sliceBounds, Option.getD_none]
  have h1 : ¬ ((a : Int) < 0) := by omega
  have h2 : ¬ ((c : Int) < 0) := by omega
  simp only [h1, h2, if_false, show (1 : Int) > 0 by decide, if_true]
  congr 1
  · omega
  · congr 1; omega
set_option maxRecDepth 100000 in
/-- list.__setitem__ with a slice of step one and another list -/
theorem setItem_slice {l b sl : Addr} {items new : Array Value} {n n2 : Nat} {vl vu : Value} {a c : Nat} {Q : Unit → Shared → Prop}
    (e : s.heap.get? l = some { cls := .type "list", data := .seq items n }) (e2 : s.heap.get? b = some { cls := .type "list", data := .seq new n2 }) (hne : l ≠ b)
    (hs : s.heap.IsSliceOf sl vl vu .none) (pl : IsPart vl (some (a : Int))) (pu : IsPart vu (some (c : Int))) (hac : a ≤ c) (hc : c ≤ items.size)
    (hsz : items.size + new.size ≤ sizeLine) (h : Q () { s with heap := s.heap.update l (Obj.mapSeq fun xs => xs.extract 0 a ++ new ++ xs.extract c xs.size) }) :
    wpAny (model prog w) A (setItem (.ref l) (.ref sl) (.ref b)) Q E s := by
  have hl : s.heap.IsList l items := PySem.IsL.isList e
  have hb : s.heap.IsList b new := PySem.IsL.isList e2
  obtain ⟨os, hos, hcs, hds⟩ := id hs
  have hTs : s.TypeIs (.ref sl) "slice" := ⟨os, hos, hcs⟩
  have hstep : ¬ ((rawPart none == rawInt 0) = true) := Bool.false_ne_true
  have hsame : Builtin.List.listSameRef (.ref l) (.ref b) = false := by
    unfold Builtin.List.listSameRef
    exact beq_eq_false_iff_ne.mpr hne
  have hmax : (max (a : Int) (c : Int)).toNat = c := by omega
  have hz' : ((fun xs : Array Value => xs.extract 0 a ++ new ++ xs.extract c xs.size) items).size ≤ sizeLine + 1 := by
    simp only [Array.size_append, Array.size_extract]
    omega
  unfold setItem
  try with_reducible refine wpAny_holding ?_
  first | refine wpAny_bind (wpAny_pure ?_) | skip
  refine wpAny_bind (wpAny_sequenceKey hl.typeIs (by decide) ?_)
  refine wpAny_bind (wpAny_callSpecial?_slot (name := Str.ofString "__setitem__") hl.typeIs slot_list_setitem
    (wpAny_call_entry slot_list_setitem hl.typeIs entry_list_setitem ?_ (args_list_setitem _ _ _)))
  show wpAny _ _ (Builtin.List.listSubscript? (.ref sl) >>= _) _ _ s
  refine wpAny_bind ?_
  unfold Builtin.List.listSubscript?
  refine wpAny_bind (wpAny_specialOf hTs slice_no_index ?_)
  simp only [Option.isNone_none, if_true]
  refine wpAny_pure ?_
  show wpAny _ _ (typeOf (.ref sl) >>= _) _ _ s
  refine wpAny_bind (wpAny_typeOf hTs ?_)
  first
    | rw [if_neg (by decide)]
    | refine PySem.W.KFB.if_not (by decide) ?_
  rw [listSliceParts_eq]
  refine wpAny_bind (wpAny_bind (wpAny_field hos hds (x := .none) rfl (wpAny_bind (wpAny_listPart .none ?_))))
  rw [if_neg hstep]
  refine wpAny_bind (wpAny_field hos hds (x := vl) rfl (wpAny_bind (wpAny_listPart pl ?_)))
  refine wpAny_bind (wpAny_field hos hds (x := vu) rfl (wpAny_bind (wpAny_listPart pu (wpAny_pure ?_))))
  first
    | simp only [hsame, Bool.false_eq_true, if_false]
    | refine PySem.W.KFB.if_not hsame ?_
    | (dsimp only
       rw [if_neg (by rw [hsame]; exact Bool.false_ne_true)])
  refine wpAny_bind (m := Builtin.List.listAllItems (.ref b) "must assign iterable to extended slice") ?_
  unfold Builtin.List.listAllItems
  refine wpAny_bind (wpAny_typeOf hb.typeIs ?_)
  first
    | refine PySem.W.KFB.if_so (by decide) ?_
    | rw [if_pos (by decide)]
    | simp only [beq_self_eq_true, Bool.true_or, if_true]
  unfold Builtin.List.listItems
  refine wpAny_bind (wpAny_seqItems e2 rfl (wpAny_pure ?_))
  refine wpAny_bind (wpAny_bind (wpAny_seqItems e rfl (wpAny_pure ?_)))
  refine wpAny_bind (wpAny_of_eq ((sliceIndices_raw (some (a : Int)) (some (c : Int)) none items.size (by simp)).trans (congrArg (pure : Int × Int × Int → Sem (Int × Int × Int)) (bounds_run hac hc))) ?_)
  show wpAny _ _ (if ((1 : Int) == 1) = true then _ else _) _ _ s
  rw [if_pos (by decide)]
  refine wpAny_bind (wpAny_rule ?_)
  first
    | simp only [notLongL hsz, Bool.false_eq_true, if_false]
    | refine PySem.W.KFB.if_not (notLongL hsz) ?_
  first | refine wpAny_bind (wpAny_pure ?_) | skip
  show wpAny _ _ (updateSeq l (fun xs => xs.extract 0 ((a : Int)).toNat ++ new ++ xs.extract (max (a : Int) (c : Int)).toNat xs.size) >>= _) _ _ s
  rw [hmax, Int.toNat_natCast]
  refine wpAny_bind (wpAny_updateSeq (hz := Nat.le_trans (Nat.le_add_right _ _) hsz) (_hz' := hz') e rfl ?_)
  refine wpAny_bind (wpAny_letGo ?_)
  first
    | exact wpAny_bind (wpAny_pure (wpAny_pure ⟨.none, rfl, wpAny_pure h⟩))
    | exact wpAny_pure ⟨.none, rfl, wpAny_pure h⟩
end

section
variable {X : Cx}
/-- xs[a:c] = ys of another list, at the value level: sl is the slice object that was just made -/
theorem set_slice {pins : List (Addr × Obj)} {s : Shared} {σ : St} {H : Hp} {l b sl : Addr} {xs ys : List V} {a c : Int} {vl vu : Value} {Q : Unit → Shared → Prop} (I : Inv X pins σ H s)
    (hH : H l = some (.lst xs)) (hB : H b = some (.lst ys)) (hne : l ≠ b) (hs : s.heap.IsSliceOf sl vl vu .none) (ra : RelV (.int a) vl) (rc : RelV (.int c) vu) (h0 : 0 ≤ a) (hac : a ≤ c) (hc : c ≤ xs.length)
    (hz : xs.length + ys.length ≤ sizeLine) (h : ∀ s', Inv X pins σ (upd H l (.lst (xs.take a.toNat ++ ys ++ xs.drop c.toNat))) s' → Q () s') :
    wpAny (model X.prog X.w) X.A (setItem (.ref l) (.ref sl) (.ref b)) Q X.xe s := by
  obtain ⟨ta, rfl⟩ := ra
  obtain ⟨tc, rfl⟩ := rc
  obtain ⟨z, its, n, r, hl, e⟩ := I.lstM hH
  obtain ⟨z2, its2, n2, r2, hl2, e2⟩ := I.lstM hB
  obtain ⟨a', rfl⟩ := Int.eq_ofNat_of_zero_le h0
  obtain ⟨c', rfl⟩ := Int.eq_ofNat_of_zero_le (Int.le_trans h0 hac)
  simp only [Int.toNat_natCast] at h
  refine setItem_slice (a := a') (c := c') e e2 hne hs (.int _ _) (.int _ _) (by omega) (by rw [List.size_toArray]; omega) (by rw [List.size_toArray, List.size_toArray]; omega) (h _ ?_)
  refine I.lset (its' := its.take a' ++ its2 ++ its.drop c') (t' := s.toks) hH e ?_ (Vals.append (Vals.append (r.take _) r2) (r.drop _)) ?_
  · exact splice_eq its its2 a' c'
  · rw [List.length_append, List.length_append, List.length_take, List.length_drop]
    omega
end
end L2

namespace L2
open PySem PySem.Spec PyProof.Rows

/-! ### lists of pairs as tables -/
section
variable {κ : Type} [DecidableEq κ]
def valV (kvs : List (κ × V)) (k : κ) : Option V := (kvs.find? fun kv => decide (kv.1 = k)).map (·.2)
/-- in its place, or at the end -/
def putK (kvs : List (κ × V)) (k : κ) (v : V) : List (κ × V) :=
  if (kvs.any fun kv => decide (kv.1 = k)) = true then kvs.map (fun kv => if kv.1 = k then (kv.1, v) else kv) else kvs ++ [(k, v)]
def dropK (kvs : List (κ × V)) (k : κ) : List (κ × V) := kvs.filter fun kv => decide (kv.1 ≠ k)

theorem valV_nil {k : κ} : valV ([] : List (κ × V)) k = none := rfl
theorem valV_pos {p : κ × V} {r : List (κ × V)} {k : κ} (e : p.1 = k) : valV (p :: r) k = some p.2 := by simp [valV, List.find?_cons, e]
theorem valV_neg {p : κ × V} {r : List (κ × V)} {k : κ} (e : ¬ p.1 = k) : valV (p :: r) k = valV r k := by simp [valV, List.find?_cons, e]
theorem valV_any (k : κ) : ∀ kvs : List (κ × V), (kvs.any fun kv => decide (kv.1 = k)) = (valV kvs k).isSome
  | [] => rfl
  | p :: r => by
    rw [List.any_cons]
    by_cases e : p.1 = k
    · simp only [valV_pos e, decide_eq_true e, Bool.true_or, Option.isSome_some]
    · rw [valV_neg e, decide_eq_false e, Bool.false_or]; exact valV_any k r
theorem valV_map (k j : κ) (y : V) : ∀ kvs : List (κ × V), valV (kvs.map fun kv => if kv.1 = k then (kv.1, y) else kv) j = (valV kvs j).map fun x => if j = k then y else x
  | [] => rfl
  | p :: r => by
    have ih := valV_map k j y r
    rw [List.map_cons]
    by_cases h : p.1 = k
    · rw [if_pos h]
      by_cases e : p.1 = j
      · rw [valV_pos (p := (p.1, y)) e, valV_pos e, Option.map_some, if_pos (e.symm.trans h)]
      · rw [valV_neg (p := (p.1, y)) e, valV_neg e, ih]
    · rw [if_neg h]
      by_cases e : p.1 = j
      · rw [valV_pos (p := p) e, valV_pos e, Option.map_some, if_neg (fun z => h (e.trans z))]
      · rw [valV_neg (p := p) e, valV_neg e, ih]
theorem valV_snoc (k j : κ) (y : V) : ∀ kvs : List (κ × V), valV kvs k = none → valV (kvs ++ [(k, y)]) j = if j = k then some y else valV kvs j
  | [], _ => by
    by_cases e : k = j
    · rw [if_pos e.symm]; exact valV_pos (p := (k, y)) e
    · rw [if_neg (fun z => e z.symm)]; exact valV_neg (p := (k, y)) e
  | p :: r, hn => by
    rw [List.cons_append]
    have hk : ¬ p.1 = k := fun z => by rw [valV_pos z] at hn; cases hn
    rw [valV_neg hk] at hn
    have ih := valV_snoc k j y r hn
    by_cases e : p.1 = j
    · rw [valV_pos e, valV_pos e, if_neg (fun z => hk (e.trans z))]
    · rw [valV_neg e, valV_neg e, ih]
theorem valV_put (kvs : List (κ × V)) (k j : κ) (y : V) : valV (putK kvs k y) j = if j = k then some y else valV kvs j := by
  unfold putK
  by_cases a : (kvs.any fun kv => decide (kv.1 = k)) = true
  · rw [if_pos a, valV_map]
    rw [valV_any] at a
    by_cases e : j = k
    · obtain ⟨x, hx⟩ := Option.isSome_iff_exists.mp a
      rw [if_pos e, e, hx, Option.map_some, if_pos rfl]
    · rw [if_neg e]
      cases valV kvs j with
      | none => rfl
      | some x => rw [Option.map_some, if_neg e]
  · rw [if_neg a]
    refine valV_snoc k j y kvs ?_
    rw [valV_any] at a
    cases q : valV kvs k with
    | none => rfl
    | some x => rw [q] at a; exact (a rfl).elim
theorem length_putK (kvs : List (κ × V)) (k : κ) (v : V) : (putK kvs k v).length ≤ kvs.length + 1 := by
  unfold putK
  split
  · rw [List.length_map]; omega
  · rw [List.length_append, List.length_cons, List.length_nil]; omega
theorem putK_new {kvs : List (κ × V)} {k : κ} (v : V) (h : valV kvs k = none) : putK kvs k v = kvs ++ [(k, v)] := by
  unfold putK
  rw [valV_any, h]
  exact if_neg (by decide)

theorem RelO.isSome_eq {o : Option V} {u : Option Value} (r : RelO o u) : o.isSome = u.isSome := by
  cases o with
  | none => cases u with
    | none => rfl
    | some _ => exact (show False from r).elim
  | some _ => cases u with
    | none => exact (show False from r).elim
    | some _ => rfl
theorem RelO.getD {o : Option V} {u : Option Value} {d : V} {d' : Value} (r : RelO o u) (rd : RelV d d') : RelV (o.getD d) (u.getD d') := by
  cases o with
  | none => cases u with
    | none => exact rd
    | some _ => exact (show False from r).elim
  | some _ => cases u with
    | none => exact (show False from r).elim
    | some _ => exact r

/-- raw tables of the same keys -/
theorem KV.val {kvs : List (κ × V)} {vs : List (κ × Value)} (r : KV kvs vs) (k : κ) : RelO (valV kvs k) (valueAt vs k) := by
  unfold KV at r
  induction r with
  | nil => exact True.intro
  | @cons p q ps qs h t ih =>
    obtain ⟨h1, h2⟩ := h
    by_cases e : p.1 = k
    · have e' : q.1 = k := h1.symm.trans e
      have b : valueAt (q :: qs) k = some q.2 := by simp [valueAt, List.find?_cons, e']
      rw [valV_pos e, b]; exact h2
    · have e' : ¬ q.1 = k := fun z => e (h1.trans z)
      have b : valueAt (q :: qs) k = valueAt qs k := by simp [valueAt, List.find?_cons, e']
      rw [valV_neg e, b]; exact ih
theorem KV.any {kvs : List (κ × V)} {vs : List (κ × Value)} (r : KV kvs vs) (k : κ) : (kvs.any fun kv => decide (kv.1 = k)) = vs.any fun kv => decide (kv.1 = k) := by
  unfold KV at r
  induction r with
  | nil => rfl
  | cons h t ih => rw [List.any_cons, List.any_cons, ih, h.1]
theorem KV.repl {kvs : List (κ × V)} {vs : List (κ × Value)} (r : KV kvs vs) (k : κ) {y : V} {u : Value} (ry : RelV y u) :
    KV (kvs.map fun kv => if kv.1 = k then (kv.1, y) else kv) (vs.map fun kv => if kv.1 = k then (kv.1, u) else kv) := by
  unfold KV at r ⊢
  induction r with
  | nil => exact .nil
  | @cons p q ps qs h t ih =>
    rw [List.map_cons, List.map_cons]
    refine .cons ?_ ih
    obtain ⟨h1, h2⟩ := h
    by_cases e : p.1 = k
    · rw [if_pos e, if_pos (h1.symm.trans e)]; exact ⟨h1, ry⟩
    · rw [if_neg e, if_neg (fun z => e (h1.trans z))]; exact ⟨h1, h2⟩
theorem KV.put {kvs : List (κ × V)} {vs : List (κ × Value)} (r : KV kvs vs) (k : κ) {y : V} {u : Value} (ry : RelV y u) : KV (putK kvs k y) (stored vs k u) := by
  unfold putK stored
  rw [r.any k]
  by_cases e : (vs.any fun kv => decide (kv.1 = k)) = true
  · rw [if_pos e, if_pos e]; exact r.repl k ry
  · rw [if_neg e, if_neg e]; exact Paired.snoc r ⟨rfl, ry⟩
theorem KV.drop {kvs : List (κ × V)} {vs : List (κ × Value)} (r : KV kvs vs) (k : κ) : KV (dropK kvs k) (without vs k) := by
  unfold KV at r ⊢
  unfold dropK without
  induction r with
  | nil => exact .nil
  | @cons p q ps qs h t ih =>
    obtain ⟨h1, h2⟩ := h
    rw [List.filter_cons, List.filter_cons]
    by_cases e : p.1 = k
    · have a : ¬ decide (p.1 ≠ k) = true := by simp [e]
      have b : ¬ decide (q.1 ≠ k) = true := by simp [h1.symm.trans e]
      rw [if_neg a, if_neg b]; exact ih
    · have e' : ¬ q.1 = k := fun z => e (h1.trans z)
      have a : decide (p.1 ≠ k) = true := by simp [e]
      have b : decide (q.1 ≠ k) = true := by simp [e']
      rw [if_pos a, if_pos b]; exact .cons ⟨h1, h2⟩ ih
theorem KV.keys {kvs : List (κ × V)} {vs : List (κ × Value)} (r : KV kvs vs) : kvs.map (·.1) = vs.map (·.1) := by
  unfold KV at r
  induction r with
  | nil => rfl
  | cons h t ih => rw [List.map_cons, List.map_cons, ih, h.1]
theorem KV.length {kvs : List (κ × V)} {vs : List (κ × Value)} (r : KV kvs vs) : kvs.length = vs.length := Paired.length r
theorem dropK_le (kvs : List (κ × V)) (k : κ) : (dropK kvs k).length ≤ kvs.length := List.length_filter_le _ _
end


/-! ### a tracked dict, its keys ints and texts or tuples of these -/
theorem kV_is {P : Program} {w : World} {k : Key} {u : Value} (r : RelV (kV k) u) : (mixKind P w).is k u = true := by
  cases k with
  | inl i => obtain ⟨t, e⟩ := (show ∃ t, u = Value.int i t from r); subst e; exact mixKind_int P w i t
  | inr x => obtain ⟨t, e⟩ := (show ∃ t, u = Value.str x t from r); subst e; exact mixKind_str P w x t
theorem kV_inj {a b : Key} (e : kV a = kV b) : a = b := by
  cases a with
  | inl i => cases b with
    | inl j => have e' : V.int i = V.int j := e; injection e' with e'; rw [e']
    | inr y => exact nomatch (show V.int i = V.str y from e)
  | inr x => cases b with
    | inl j => exact nomatch (show V.str x = V.int j from e)
    | inr y => have e' : V.str x = V.str y := e; injection e' with e'; rw [e']
theorem kVs_inj : ∀ {a b : List Key}, a.map kV = b.map kV → a = b
  | [], [], _ => rfl
  | [], _ :: _, e => by simp at e
  | _ :: _, [], e => by simp at e
  | x :: xs, y :: ys, e => by
    rw [List.map_cons, List.map_cons] at e
    injection e with e1 e2
    rw [kV_inj e1, kVs_inj e2]
theorem items_are {P : Program} {w : World} : ∀ {ks : List Key} {us : List Value}, Vals (ks.map kV) us → ItemsAre (mixKind P w) ks us
  | [], _, r => by rw [List.map_nil] at r; cases r; exact .nil
  | k :: ks, _, r => by
    rw [List.map_cons] at r
    cases r with
    | cons h t => exact .cons (kV_is h) (items_are t)

/-- raw entries of a dict with tuple keys -/
abbrev KT (H : Hp) : List (List Key × V) → List (List Key × Addr × Value) → Prop := Paired fun p q => p.1 = q.1 ∧ H q.2.1 = some (.tup (p.1.map kV)) ∧ RelV p.2 q.2.2
theorem KT.val {H : Hp} {kvs : List (List Key × V)} {xs : List (List Key × Addr × Value)} (r : KT H kvs xs) (k : List Key) : RelO (valV kvs k) ((atKey xs k).map (·.2)) := by
  induction r with
  | nil => exact True.intro
  | @cons p q ps qs h t ih =>
    obtain ⟨h1, _, h2⟩ := h
    by_cases e : p.1 = k
    · have e' : q.1 = k := h1.symm.trans e
      have b : atKey (q :: qs) k = some q.2 := by simp [atKey, List.find?_cons, e']
      rw [valV_pos e, b]; exact h2
    · have e' : ¬ q.1 = k := fun z => e (h1.trans z)
      have b : atKey (q :: qs) k = atKey qs k := by simp [atKey, List.find?_cons, e']
      rw [valV_neg e, b]; exact ih
theorem KT.repl {H : Hp} {kvs : List (List Key × V)} {xs : List (List Key × Addr × Value)} (r : KT H kvs xs) (k : List Key) {y : V} {u : Value} (ry : RelV y u) :
    KT H (kvs.map fun kv => if kv.1 = k then (kv.1, y) else kv) (xs.map (putAt k u)) := by
  induction r with
  | nil => exact .nil
  | @cons p q ps qs h t ih =>
    rw [List.map_cons, List.map_cons]
    refine .cons ?_ ih
    obtain ⟨h1, h2, h3⟩ := h
    unfold putAt
    by_cases e : p.1 = k
    · rw [if_pos e, if_pos (h1.symm.trans e)]; exact ⟨h1, h2, ry⟩
    · rw [if_neg e, if_neg (fun z => e (h1.trans z))]; exact ⟨h1, h2, h3⟩
theorem KT.put {H : Hp} {kvs : List (List Key × V)} {xs : List (List Key × Addr × Value)} (r : KT H kvs xs) (k : List Key) {b : Addr} {y : V} {u : Value} (hb : H b = some (.tup (k.map kV))) (ry : RelV y u) :
    KT H (putK kvs k y) (storedH xs k b u) := by
  have e : (kvs.any fun kv => decide (kv.1 = k)) = (atKey xs k).isSome := by
    rw [valV_any, (r.val k).isSome_eq, Option.isSome_map]
  unfold putK storedH
  rw [e]
  by_cases q : (atKey xs k).isSome = true
  · rw [if_pos q, if_pos q]; exact r.repl k ry
  · rw [if_neg q, if_neg q]; exact Paired.snoc r ⟨rfl, hb, ry⟩
theorem KT.keeps {H H' : Hp} {kvs : List (List Key × V)} {xs : List (List Key × Addr × Value)} (r : KT H kvs xs) (ht : ∀ b ys, H b = some (.tup ys) → H' b = some (.tup ys)) : KT H' kvs xs :=
  Paired.mapP r fun _ _ z => ⟨z.1, ht _ _ z.2.1, z.2.2⟩

section
variable {P : Program} {w : World} {H : Hp} {h : Heap} {a : Addr}
theorem rd_of {u : HO} (ok : HOk P w H h) (e : Rd H a u) : ObjOk P w H h a u := e.ok ok
theorem dk_rd {kvs : List (Key × V)} (ok : HOk P w H h) (e : Rd H a (.dK kvs)) : kvs.length ≤ sizeLine ∧ (a == sysModules) = false ∧ ∃ vs, KV kvs vs ∧ h.DictOf (mixKind P w) a vs :=
  show ObjOk P w H h a (.dK kvs) from rd_of ok e
theorem dk_of {kvs : List (Key × V)} (ok : HOk P w H h) (e : H a = some (.dK kvs)) : kvs.length ≤ sizeLine ∧ (a == sysModules) = false ∧ ∃ vs, KV kvs vs ∧ h.DictOf (mixKind P w) a vs := dk_rd ok (.inl e)
/-- a tracked tuple of ints and texts is a key -/
theorem key_of {ks : List Key} (ok : HOk P w H h) (e : H a = some (.tup (ks.map kV))) : (tupleKind (mixKind P w)).is h ks a := by
  obtain ⟨_, its, r, ⟨o, h1, h2, n, h3⟩, _⟩ := (show ObjOk P w H h a (.tup (ks.map kV)) from ok a _ e)
  exact ⟨o, its.toArray, n, h1, h2, h3, by simpa using items_are r⟩
theorem dt_rd {kvs : List (List Key × V)} (ok : HOk P w H h) (e : Rd H a (.dT kvs)) : kvs.length ≤ sizeLine ∧ (a == sysModules) = false ∧
    ∃ xs, KT H kvs xs ∧ h.DictOfH (tupleKind (mixKind P w)) a xs := by
  obtain ⟨z, y, xs, r, o, es, ep, h1, h2, h3, h4, h5⟩ := (show ObjOk P w H h a (.dT kvs) from rd_of ok e)
  refine ⟨z, y, xs, r, o, es, ep, h1, h2, h3, h4, fun x hx => ?_, h5⟩
  have all : ∀ {l : List (List Key × V)} {m : List (List Key × Addr × Value)}, KT H l m → ∀ x ∈ m, (tupleKind (mixKind P w)).is h x.1 x.2.1 := by
    intro l m q
    induction q with
    | nil => intro x hx; exact nomatch hx
    | @cons p q ps qs hq t ih =>
      intro x hx
      rcases List.mem_cons.mp hx with e | hx
      · subst e
        exact key_of ok (by rw [← hq.1]; exact hq.2.1)
      · exact ih x hx
  exact all r x hx
theorem dt_of {kvs : List (List Key × V)} (ok : HOk P w H h) (e : H a = some (.dT kvs)) : kvs.length ≤ sizeLine ∧ (a == sysModules) = false ∧
    ∃ xs, KT H kvs xs ∧ h.DictOfH (tupleKind (mixKind P w)) a xs := dt_rd ok (.inl e)
end

/-- what the dict at a holds at the key y -/
def DGet (H : Hp) (a : Addr) (y : V) (r : Option V) : Prop :=
  (∃ kvs k, Rd H a (.dK kvs) ∧ y = kV k ∧ r = valV kvs k) ∨ ∃ kvs k b, Rd H a (.dT kvs) ∧ y = .ref b ∧ H b = some (.tup (k.map kV)) ∧ r = valV kvs k
/-- the heap behind a[y] = v -/
def DPut (H : Hp) (a : Addr) (y v : V) (H' : Hp) : Prop :=
  (∃ kvs k, H a = some (.dK kvs) ∧ y = kV k ∧ kvs.length < sizeLine ∧ H' = upd H a (.dK (putK kvs k v))) ∨
  ∃ kvs k b, H a = some (.dT kvs) ∧ y = .ref b ∧ H b = some (.tup (k.map kV)) ∧ kvs.length < sizeLine ∧ H' = upd H a (.dT (putK kvs k v))
theorem DGet.k {H : Hp} {a : Addr} {kvs : List (Key × V)} {k : Key} (e : H a = some (.dK kvs)) : DGet H a (kV k) (valV kvs k) := .inl ⟨kvs, k, .inl e, rfl, rfl⟩
theorem DGet.t {H : Hp} {a b : Addr} {kvs : List (List Key × V)} {k : List Key} (e : H a = some (.dT kvs)) (eb : H b = some (.tup (k.map kV))) : DGet H a (.ref b) (valV kvs k) := .inr ⟨kvs, k, b, .inl e, rfl, eb, rfl⟩
theorem DPut.k {H : Hp} {a : Addr} {kvs : List (Key × V)} {k : Key} {v : V} (e : H a = some (.dK kvs)) (hl : kvs.length < sizeLine) : DPut H a (kV k) v (upd H a (.dK (putK kvs k v))) := .inl ⟨kvs, k, e, rfl, hl, rfl⟩
theorem DPut.t {H : Hp} {a b : Addr} {kvs : List (List Key × V)} {k : List Key} {v : V} (e : H a = some (.dT kvs)) (eb : H b = some (.tup (k.map kV))) (hl : kvs.length < sizeLine) :
    DPut H a (.ref b) v (upd H a (.dT (putK kvs k v))) := .inr ⟨kvs, k, b, e, rfl, eb, hl, rfl⟩


section
variable {X : Cx} {pins : List (Addr × Obj)} {σ : St} {H : Hp} {s : Shared} {a : Addr} {y v : V} {u r : Value} {o : Option V} {A : Around} {E : Value → Shared → Prop}

theorem Inv.big (I : Inv X pins σ H s) : sysModules < s.heap.objs.size := by
  have h : mainGlobals < s.heap.objs.size := (I.mod.glob.keeps I.bk).lt
  exact Nat.lt_trans (by decide) h

/-- d[y], there -/
theorem d_getItem {Q : Value → Shared → Prop} (hu : A.units + 1 < cLine) (I : Inv X pins σ H s) (g : DGet H a y (some v)) (ry : RelV y u) (h : ∀ w' s', Inv X pins σ H s' → RelV v w' → Q w' s') :
    wpAny (model X.prog X.w) A (getItem (.ref a) u) Q E s := by
  rcases g with ⟨kvs, k, e, ey, l⟩ | ⟨kvs, k, b, e, ey, eb, l⟩
  · subst ey
    obtain ⟨z, hd, vs, rel, dd⟩ := dk_rd I.hok e
    obtain ⟨w', hw, rw'⟩ := RelO.some_of (v := v) (o := valueAt vs k) (by rw [l]; exact rel.val k)
    exact wpAny_getItem_of (kV_is ry) dd.mapOf hw (h w' _ (I.tok _) rw')
  · subst ey
    cases (show u = Value.ref b from ry)
    obtain ⟨z, hd, xs, rel, dd⟩ := dt_rd I.hok e
    obtain ⟨w', hw, rw'⟩ := RelO.some_of (v := v) (o := (atKey xs k).map (·.2)) (by rw [l]; exact rel.val k)
    obtain ⟨p, hp, hp2⟩ := Option.map_eq_some_iff.mp hw
    refine wpAny_getItem_heap (tupleKind_room_in1 hu) (key_of I.hok eb) dd hp ?_
    rw [hp2]
    exact h w' _ (I.tok _) rw'
/-- y in d -/
theorem d_in {Q : Value → Shared → Prop} (hu : A.units + 1 < cLine) (I : Inv X pins σ H s) (g : DGet H a y o) (ry : RelV y u) (h : ∀ s', Inv X pins σ H s' → Q (.bool o.isSome) s') :
    wpAny (model X.prog X.w) A (compareOp .In u (.ref a)) Q E s := by
  rcases g with ⟨kvs, k, e, ey, l⟩ | ⟨kvs, k, b, e, ey, eb, l⟩
  · subst ey
    obtain ⟨z, hd, vs, rel, dd⟩ := dk_rd I.hok e
    refine wpAny_in_of (kV_is ry) hd dd.mapOf ?_
    rw [← (rel.val k).isSome_eq, ← l]
    exact h _ (I.tok _)
  · subst ey
    cases (show u = Value.ref b from ry)
    obtain ⟨z, hd, xs, rel, dd⟩ := dt_rd I.hok e
    refine wpAny_in_heap (tupleKind_room_in1 hu) (key_of I.hok eb) hd dd ?_
    have q := (rel.val k).isSome_eq
    rw [Option.isSome_map] at q
    rw [← q, ← l]
    exact h _ (I.tok _)
theorem d_notIn {Q : Value → Shared → Prop} (hu : A.units + 1 < cLine) (I : Inv X pins σ H s) (g : DGet H a y o) (ry : RelV y u) (h : ∀ s', Inv X pins σ H s' → Q (.bool (!o.isSome)) s') :
    wpAny (model X.prog X.w) A (compareOp .NotIn u (.ref a)) Q E s := by
  rcases g with ⟨kvs, k, e, ey, l⟩ | ⟨kvs, k, b, e, ey, eb, l⟩
  · subst ey
    obtain ⟨z, hd, vs, rel, dd⟩ := dk_rd I.hok e
    refine wpAny_notIn_of (kV_is ry) hd dd.mapOf ?_
    rw [← (rel.val k).isSome_eq, ← l]
    exact h _ (I.tok _)
  · subst ey
    cases (show u = Value.ref b from ry)
    obtain ⟨z, hd, xs, rel, dd⟩ := dt_rd I.hok e
    refine wpAny_notIn_heap (tupleKind_room_in1 hu) (key_of I.hok eb) hd dd ?_
    have q := (rel.val k).isSome_eq
    rw [Option.isSome_map] at q
    rw [← q, ← l]
    exact h _ (I.tok _)
/-- a dict's object is replaced -/
theorem d_write {h' : Heap} {t' : Nat} {ob : HO} (I : Inv X pins σ H s) (mu : Mut (H a)) (hs : Heap.SameBut a s.heap h') (he : ∃ q, h'.get? a = some q) (new : ObjOk X.prog X.w (upd H a ob) h' a ob) :
    Inv X pins σ (upd H a ob) { s with heap := h', toks := t' } :=
  I.write (x := a) (e := a) mu (.inl rfl) (fun b q hb z => (hs.2 b hb).trans z) he new
theorem dk_new {P : Program} {w : World} {H' : Hp} {h' : Heap} {kvs : List (Key × V)} {vs : List (Key × Value)} (z : kvs.length ≤ sizeLine) (hd : (a == sysModules) = false) (rel : KV kvs vs) (dd : h'.DictOf (mixKind P w) a vs) :
    ObjOk P w H' h' a (.dK kvs) := ⟨z, hd, vs, rel, dd⟩
/-- d[y] = v -/
theorem d_setItem {H' : Hp} {Q : Unit → Shared → Prop} (hu : A.units + 1 < cLine) (I : Inv X pins σ H s) (g : DPut H a y v H') (ry : RelV y u) (rv : RelV v r) (h : ∀ s', Inv X pins σ H' s' → Q () s') :
    wpAny (model X.prog X.w) A (setItem (.ref a) u r) Q E s := by
  rcases g with ⟨kvs, k, e, ey, l, eH⟩ | ⟨kvs, k, b, e, ey, eb, l, eH⟩
  · subst ey eH
    obtain ⟨z, hd, vs, rel, dd⟩ := dk_of I.hok e
    have hz : vs.length ≤ sizeLine := by rw [← rel.length]; exact z
    have hl : (putK kvs k v).length ≤ sizeLine := by have := length_putK kvs k v; omega
    refine wpAny_setItem_pairs (hsz := hz) (kV_is ry) dd fun h' dd' hs => h _ ?_
    have he : ∃ q, h'.get? a = some q := let ⟨q, _, _, hq, _⟩ := dd'; ⟨q, hq⟩
    exact d_write I (by rw [e]; exact True.intro) hs he (dk_new hl hd (rel.put k rv) dd')
  · subst ey eH
    cases (show u = Value.ref b from ry)
    obtain ⟨z, hd, xs, rel, dd⟩ := dt_of I.hok e
    have hz : xs.length ≤ sizeLine := by rw [← Paired.length rel]; exact z
    have hl : (putK kvs k v).length ≤ sizeLine := by have := length_putK kvs k v; omega
    refine wpAny_setItem_heap (hsz := hz) (tupleKind_room_in1 hu) (key_of I.hok eb) dd fun h' dd' hs => h _ ?_
    obtain ⟨q, es, ep, hq, h2, h3, h4, _, h5⟩ := dd'
    refine d_write I (by rw [e]; exact True.intro) hs ⟨q, hq⟩ ⟨hl, hd, _, (rel.put k eb rv).keeps fun c ys ec => ?_, q, es, ep, hq, h2, h3, h4, h5⟩
    rw [upd_ne (ne_of ec e (fun z => nomatch z))]
    exact ec
end

section
variable {X : Cx} {pins : List (Addr × Obj)} {σ : St} {H : Hp} {s : Shared} {a : Addr} {kvs : List (Key × V)} {k : Key} {u : Value} {A : Around} {E : Value → Shared → Prop}
/-- del d[k] -/
theorem d_delItem {Q : Unit → Shared → Prop} (I : Inv X pins σ H s) (e : H a = some (.dK kvs)) (ry : RelV (kV k) u) (l : (valV kvs k).isSome = true) (h : ∀ s', Inv X pins σ (upd H a (.dK (dropK kvs k))) s' → Q () s') :
    wpAny (model X.prog X.w) A (delItem (.ref a) u) Q E s := by
  obtain ⟨z, hd, vs, rel, dd⟩ := dk_of I.hok e
  refine wpAny_delItem_slot dd.typeIs (by decide) PySem.F.slot_dict_delitem
    (call_meetsIn PySem.F.slot_dict_delitem dd.typeIs PySem.F.entry_dict_delitem (PySem.F.args_dict_delitem_2 _ _) (meets_dict_delitem_pairs (mixKind X.prog X.w) a (kV_is ry)) ⟨vs, dd, by rw [← rel.length]; exact z, by rw [← (rel.val k).isSome_eq]; exact l, fun h' dd' hs => h _ ?_⟩)
  have he : ∃ q, h'.get? a = some q := let ⟨q, _, _, hq, _⟩ := dd'; ⟨q, hq⟩
  exact d_write I (by rw [e]; exact True.intro) hs he (dk_new (Nat.le_trans (dropK_le kvs k) z) hd (rel.drop k) dd')
/-- d.pop(k[, x]), there -/
theorem d_pop {v : V} {more : List Value} {Q : Value → Shared → Prop} (I : Inv X pins σ H s) (e : H a = some (.dK kvs)) (ry : RelV (kV k) u) (l : valV kvs k = some v) (hm : more = [] ∨ ∃ x, more = [x])
    (h : ∀ w' s', Inv X pins σ (upd H a (.dK (dropK kvs k))) s' → RelV v w' → Q w' s') : wpAny (model X.prog X.w) A (call (.builtin "dict.pop") (.ref a :: u :: more)) Q E s := by
  obtain ⟨z, hd, vs, rel, dd⟩ := dk_of I.hok e
  obtain ⟨w', hw, rw'⟩ := RelO.some_of (v := v) (o := valueAt vs k) (by rw [← l]; exact rel.val k)
  have hp : (keyPart u).isSome = true := by
    cases k with
    | inl i => obtain ⟨t, q⟩ := (show ∃ t, u = Value.int i t from ry); subst q; rfl
    | inr x => obtain ⟨t, q⟩ := (show ∃ t, u = Value.str x t from ry); subst q; rfl
  have ha : argsOk "dict.pop" ⟨.ref a :: u :: more, []⟩ := by
    rcases hm with q | ⟨x, q⟩
    · subst q; exact PySem.F.args_dict_pop_2 _ _
    · subst q; exact PySem.F.args_dict_pop_3 _ _ _
  refine call_meetsIn PySem.F.slot_dict_pop dd.typeIs PySem.F.entry_dict_pop ha (meets_dict_pop_there (mixKind X.prog X.w) a (kV_is ry) more hm hp)
    ⟨vs, w', dd, by rw [← rel.length]; exact z, hw, fun h' dd' hs => h w' _ ?_ rw'⟩
  have he : ∃ q, h'.get? a = some q := let ⟨q, _, _, hq, _⟩ := dd'; ⟨q, hq⟩
  exact d_write I (by rw [e]; exact True.intro) hs he (dk_new (Nat.le_trans (dropK_le kvs k) z) hd (rel.drop k) dd')
/-- d.pop(k, x), not there -/
theorem d_popD {r : Value} {Q : Value → Shared → Prop} (I : Inv X pins σ H s) (e : H a = some (.dK kvs)) (ry : RelV (kV k) u) (l : valV kvs k = none) (h : ∀ s', Inv X pins σ H s' → Q r s') :
    wpAny (model X.prog X.w) A (call (.builtin "dict.pop") [.ref a, u, r]) Q E s := by
  obtain ⟨z, hd, vs, rel, dd⟩ := dk_of I.hok e
  have hn : valueAt vs k = none := RelO.none_of (by rw [← l]; exact rel.val k)
  have hp : (keyPart u).isSome = true := by
    cases k with
    | inl i => obtain ⟨t, q⟩ := (show ∃ t, u = Value.int i t from ry); subst q; rfl
    | inr x => obtain ⟨t, q⟩ := (show ∃ t, u = Value.str x t from ry); subst q; rfl
  exact call_meetsIn PySem.F.slot_dict_pop dd.typeIs PySem.F.entry_dict_pop (PySem.F.args_dict_pop_3 _ _ _) (meets_dict_pop_default (mixKind X.prog X.w) a (kV_is ry) hd hp r) ⟨vs, dd, hn, h _ (I.tok _)⟩
/-- d.clear() -/
theorem d_clear {Q : Value → Shared → Prop} (I : Inv X pins σ H s) (e : H a = some (.dK kvs)) (h : ∀ s', Inv X pins σ (upd H a (.dK [])) s' → Q .none s') : wpAny (model X.prog X.w) A (call (.builtin "dict.clear") [.ref a]) Q E s := by
  obtain ⟨z, hd, vs, rel, dd⟩ := dk_of I.hok e
  refine call_meetsIn PySem.F.slot_dict_clear dd.typeIs PySem.F.entry_dict_clear (PySem.F.args_dict_clear_1 _) (meets_dict_clear (mixKind X.prog X.w) a) ⟨vs, dd, by rw [← rel.length]; exact z, fun h' dd' hs => h _ ?_⟩
  have he : ∃ q, h'.get? a = some q := let ⟨q, _, _, hq, _⟩ := dd'; ⟨q, hq⟩
  exact d_write (t' := s.toks) I (by rw [e]; exact True.intro) hs he (dk_new (Nat.zero_le _) hd .nil dd')
/-- len(d) -/
theorem d_len {Q : Value → Shared → Prop} (I : Inv X pins σ H s) (e : Rd H a (.dK kvs)) (h : ∀ t s', Inv X pins σ H s' → Q (.int kvs.length t) s') : wpAny (model X.prog X.w) A (call (.builtin "len") [.ref a]) Q E s := by
  obtain ⟨z, hd, vs, rel, dd⟩ := dk_rd I.hok e
  refine call_len_dict hd dd (by rw [← rel.length]; rw [sizeLine_eq] at z; omega) ?_
  rw [← rel.length]
  exact h _ _ (I.tok _)
/-- if d -/
theorem d_truth {Q : Bool → Shared → Prop} (I : Inv X pins σ H s) (e : Rd H a (.dK kvs)) (h : ∀ s', Inv X pins σ H s' → Q (!kvs.isEmpty) s') : wpAny (model X.prog X.w) A (truthy (.ref a)) Q E s := by
  obtain ⟨z, hd, vs, rel, dd⟩ := dk_rd I.hok e
  refine wpAny_truthy_dict hd dd (by rw [← rel.length]; rw [sizeLine_eq] at z; omega) ?_
  have q : kvs.isEmpty = vs.isEmpty := by cases rel <;> rfl
  rw [← q]
  exact h _ (I.tok _)
end


/-! ### readings and rules -/
/-- the element of a subscription, not a slice -/
def NoSl (i : Expr) : Prop := ∀ ov iv, subscripted i false ov iv = operate [ov, iv] (getItem ov iv)
theorem subD_of {prog : Program} {w : World} {A : Around} {E : Value → Shared → Prop} {s : Shared} {env : Env} {value slice : Expr} {pos : Pos} {T id : String} {Q : Value → Shared → Prop}
    (hl : typeLookup (.type T) "__getitem__" = pure (some (.builtin id))) (hs : NoSl slice)
    (h : wpAny (model prog w) A (eval value env) (fun o s₁ => wpAny (model prog w) A (eval slice env) (fun i s₂ => s₂.TypeIs o T ∧ wpAny (model prog w) A (getItem o i) Q E s₂) E s₁) E s) :
    wpAny (model prog w) A (eval (.Subscript value slice pos) env) Q E s := by
  refine Subscript_ (wpAny_mono h (fun o s₁ h₁ => wpAny_mono h₁ (fun i s₂ h₂ => ?_) fun _ _ x => x) fun _ _ x => x)
  obtain ⟨hT, h₂⟩ := h₂
  unfold subscriptTail
  refine wpAny_bind ?_
  rw [getitemInPython_of_ne hT.not_modules]
  refine wpAny_bind (wpAny_specialOf hT hl ?_)
  have fin : wpAny (model prog w) A (subscripted slice false o i) (fun r s₃ => wpAny (model prog w) A (letTemporaryGo value o r >>= fun _ => pure r) Q E s₃) E s₂ := by
    rw [hs o i]
    exact wpAny_operating (wpAny_mono h₂ (fun r s₃ h₃ => wpAny_bind (wpAny_letTemporaryGo (wpAny_pure h₃))) fun _ _ x => x)
  first
    | exact wpAny_pure (wpAny_bind fin)
    | exact wpAny_bind (wpAny_pure (wpAny_bind fin))
    | exact wpAny_bind fin

theorem dict_typeIs {X : Cx} {pins : List (Addr × Obj)} {σ : St} {H : Hp} {s : Shared} {a : Addr} {y : V} {o : Option V} (I : Inv X pins σ H s) (g : DGet H a y o) : s.TypeIs (.ref a) "dict" := by
  rcases g with ⟨kvs, k, e, _, _⟩ | ⟨kvs, k, b, e, _, _, _⟩
  · obtain ⟨_, _, vs, _, dd⟩ := dk_rd I.hok e
    exact dd.typeIs
  · obtain ⟨_, _, xs, _, dd⟩ := dt_rd I.hok e
    exact dd.typeIs
theorem dict_noDict {X : Cx} {pins : List (Addr × Obj)} {σ : St} {H : Hp} {s : Shared} {a : Addr} {y : V} {o : Option V} (I : Inv X pins σ H s) (g : DGet H a y o) :
    ∀ b, Value.ref a = .ref b → ∃ ob, s.heap.get? b = some ob ∧ ob.dict = none := fun b q => by
  cases q
  rcases g with ⟨kvs, k, e, _, _⟩ | ⟨kvs, k, b, e, _, _, _⟩
  · obtain ⟨_, _, vs, _, ob, _, _, h1, h2, _⟩ := dk_rd I.hok e
    exact ⟨ob, h1, h2.2.1⟩
  · obtain ⟨_, _, xs, _, ob, _, _, h1, h2, _⟩ := dt_rd I.hok e
    exact ⟨ob, h1, h2.2.1⟩

/-- d[y] -/
def tDGet (td ty : TE) : TE := fun σ H Q => td σ H fun x H1 => ty σ H1 fun y H2 => ∃ a v, x = .ref a ∧ DGet H2 a y (some v) ∧ Q v H2
/-- y in d, y not in d -/
def tDIn (ty td : TE) : TE := fun σ H Q => ty σ H fun y H1 => td σ H1 fun x H2 => ∃ a o, x = .ref a ∧ DGet H2 a y o ∧ Q (.bl o.isSome) H2
def tDNotIn (ty td : TE) : TE := fun σ H Q => ty σ H fun y H1 => td σ H1 fun x H2 => ∃ a o, x = .ref a ∧ DGet H2 a y o ∧ Q (.bl (!o.isSome)) H2
/-- d[y] = v -/
def sDPut (td ty tv : TE) : TS := fun D σ H => tv σ H fun v H1 => td σ H1 fun x H2 => ty σ H2 fun y H3 => ∃ a H4, x = .ref a ∧ DPut H3 a y v H4 ∧ D.nx σ H4
/-- d[y] op= v -/
def sDAug (td ty tv : TE) (rd : V → V → Hp → VK → Prop) : TS := fun D σ H => td σ H fun x H1 => ty σ H1 fun y H2 => ∃ a v, x = .ref a ∧ DGet H2 a y (some v) ∧
  tv σ H2 fun y2 H3 => rd v y2 H3 fun z H4 => ∃ H5, DPut H4 a y z H5 ∧ D.nx σ H5
/-- del d[y] -/
def sDDel (td ty : TE) : TS := fun D σ H => td σ H fun x H1 => ty σ H1 fun y H2 => ∃ a kvs k, x = .ref a ∧ H2 a = some (.dK kvs) ∧ y = kV k ∧ (valV kvs k).isSome = true ∧ D.nx σ (upd H2 a (.dK (dropK kvs k)))

section
variable {X : Cx} {o i e value : Expr} {pos pos' tpos : Pos} {td ty tv : TE}
theorem pe_dget (hu : X.A.units + 1 < cLine) (ho : PE X o td) (hi : PE X i ty) (hs : NoSl i) : PE X (.Subscript o i pos) (tDGet td ty) := by
  intro pins s σ H Q I h
  refine subD_of PySem.F.slot_dict_getitem.lookup hs (thn (ho pins s σ H _ I h) fun u s1 ⟨x, H1, I1, rx, q1⟩ => thn (hi pins s1 σ H1 _ I1 q1) fun iv s2 ⟨y, H2, I2, ry, a, v, ex, g, q2⟩ => ?_)
  subst ex
  obtain rfl : u = Value.ref a := rx
  exact ⟨dict_typeIs I2 g, d_getItem hu I2 g ry fun w' s3 I3 rw' => ⟨v, H2, I3, rw', q2⟩⟩
theorem pc_din (hu : X.A.units + 1 < cLine) (hi : PE X i ty) (ho : PE X o td) : PC X .In i o (tDIn ty td) := by
  intro pins s σ H Q I h
  refine thn (hi pins s σ H _ I h) fun iv s1 ⟨y, H1, I1, ry, q1⟩ => thn (ho pins s1 σ H1 _ I1 q1) fun u s2 ⟨x, H2, I2, rx, a, ov, ex, g, q2⟩ => ?_
  subst ex
  obtain rfl : u = Value.ref a := rx
  exact d_in hu I2 g ry fun s3 I3 => ⟨.bl ov.isSome, H2, I3, rfl, q2⟩
theorem pc_dnotin (hu : X.A.units + 1 < cLine) (hi : PE X i ty) (ho : PE X o td) : PC X .NotIn i o (tDNotIn ty td) := by
  intro pins s σ H Q I h
  refine thn (hi pins s σ H _ I h) fun iv s1 ⟨y, H1, I1, ry, q1⟩ => thn (ho pins s1 σ H1 _ I1 q1) fun u s2 ⟨x, H2, I2, rx, a, ov, ex, g, q2⟩ => ?_
  subst ex
  obtain rfl : u = Value.ref a := rx
  exact d_notIn hu I2 g ry fun s3 I3 => ⟨.bl (!ov.isSome), H2, I3, rfl, q2⟩
theorem ps_dput (hu : X.A.units + 1 < cLine) (ho : PE X o td) (hi : PE X i ty) (hv : PE X value tv) (hs : swapsWith value (some (.Subscript o i pos')) pos.line X.env = pure false) :
    PS X (.Assign [.Subscript o i pos'] value pos) (sDPut td ty tv) := by
  intro pins s σ H D I h
  refine wpAny_Assign_Subscript (thn (hv pins s σ H _ I h) fun r s1 ⟨v, H1, I1, rv, q1⟩ => thn (ho pins s1 σ H1 _ I1 q1) fun u s2 ⟨x, H2, I2, rx, q2⟩ => thn (hi pins s2 σ H2 _ I2 q2) fun iv s3 ⟨y, H3, I3, ry, a, H4, ex, g, q3⟩ => ?_) hs
  subst ex
  obtain rfl : u = Value.ref a := rx
  exact d_setItem hu I3 g ry rv fun s4 I4 => ⟨σ, H4, I4, q3⟩
theorem ps_daug {op : Operator} {rd : V → V → Hp → VK → Prop} (hu : X.A.units + 1 < cLine) (ho : PE X o td) (hi : PE X i ty) (hv : PE X value tv) (hop : InOp X op rd)
    (ha : ∀ ov iv new, augStore i ov iv new = (do holding [new, ov, iv] (setItem ov iv new); release [new, ov, iv] []; pure .next)) : PS X (.AugAssign (.Subscript o i tpos) op value pos) (sDAug td ty tv rd) := by
  intro pins s σ H D I h
  refine wpAny_AugAssign_SubscriptAny (thn (ho pins s σ H _ I h) fun u s1 ⟨x, H1, I1, rx, q1⟩ => thn (hi pins s1 σ H1 _ I1 q1) fun iv s2 ⟨y, H2, I2, ry, a, v, ex, g, q2⟩ => ?_) ha
  subst ex
  obtain rfl : u = Value.ref a := rx
  refine d_getItem hu I2 g ry fun w' s3 I3 rw' => thn (hv pins s3 σ H2 _ I3 q2) fun w2 s4 ⟨y2, H3, I4, ry2, q3⟩ => thn (hop pins s4 σ H3 v y2 w' w2 _ I4 rw' ry2 q3) fun w3 s5 ⟨z, H4, I5, rz, H5, g5, q4⟩ => ?_
  exact d_setItem hu I5 g5 ry rz fun s6 I6 => ⟨σ, H5, I6, q4⟩
theorem ps_ddel (ho : PE X o td) (hi : PE X i ty) : PS X (.Delete [.Subscript o i tpos] pos) (sDDel td ty) := by
  intro pins s σ H D I h
  refine wpAny_Delete (wpAny_deleteEach_cons (wpAny_delete_Subscript (thn (ho pins s σ H _ I h) fun u s1 ⟨x, H1, I1, rx, q1⟩ => thn (hi pins s1 σ H1 _ I1 q1) fun iv s2 ⟨y, H2, I2, ry, a, kvs, k, ex, e, ey, l, q2⟩ => ?_)))
  subst ex ey
  obtain rfl : u = Value.ref a := rx
  exact d_delItem I2 e ry l fun s3 I3 => wpAny_deleteEach_nil ⟨σ, _, I3, q2⟩
end


/-! ### displays -/
theorem dk_empty {P : Program} {w : World} {H : Hp} (h : Heap) (hb : sysModules < h.objs.size) : ObjOk P w H (h.push { cls := .type "dict", data := .dict #[] }) h.objs.size (.dK []) :=
  ⟨Nat.zero_le _, beq_eq_false_iff_ne.mpr (Ne.symm (Nat.ne_of_lt hb)), [], .nil, Heap.DictOf.new h⟩
theorem dt_empty {P : Program} {w : World} {H : Hp} (h : Heap) (hb : sysModules < h.objs.size) : ObjOk P w H (h.push { cls := .type "dict", data := .dict #[] }) h.objs.size (.dT []) :=
  ⟨Nat.zero_le _, beq_eq_false_iff_ne.mpr (Ne.symm (Nat.ne_of_lt hb)), [], .nil, _, #[], 0, Heap.get?_push_size _ rfl, ⟨rfl, rfl, rfl⟩, rfl, rfl, List.nodup_nil⟩
/-- {}, to be a dict of the kind that is wanted -/
def tDNewK : TE := fun _ H Q => ∀ p, H p = none → Q (.ref p) (upd H p (.dK []))
def tDNewT : TE := fun _ H Q => ∀ p, H p = none → Q (.ref p) (upd H p (.dT []))
section
variable {X : Cx} {pos : Pos}
theorem pe_dnewK : PE X (.Dict [] [] pos) tDNewK := fun pins s σ H Q I h =>
  wpAny_Dict_empty ⟨.ref s.heap.objs.size, _, I.laid (a := s.heap.objs.size) (o := .dK []) (t' := s.toks) (fun _ _ q => Heap.get?_push_of_some _ q) (Nat.le_refl _) (dk_empty s.heap I.big), rfl, h _ (I.hok.fresh (Nat.le_refl _))⟩
theorem pe_dnewT : PE X (.Dict [] [] pos) tDNewT := fun pins s σ H Q I h =>
  wpAny_Dict_empty ⟨.ref s.heap.objs.size, _, I.laid (a := s.heap.objs.size) (o := .dT []) (t' := s.toks) (fun _ _ q => Heap.get?_push_of_some _ q) (Nat.le_refl _) (dt_empty s.heap I.big), rfl, h _ (I.hok.fresh (Nat.le_refl _))⟩
end

/-- the pairs of a display, from the left -/
def tPairs : List (TE × TE) → St → Hp → (List (V × V) → Hp → Prop) → Prop
  | [], _, H, Q => Q [] H
  | (tk, tv) :: r, σ, H, Q => tk σ H fun x H1 => tv σ H1 fun y H2 => tPairs r σ H2 fun ps H3 => Q ((x, y) :: ps) H3
abbrev VV : List (V × V) → List (Value × Value) → Prop := Paired fun p q => RelV p.1 q.1 ∧ RelV p.2 q.2
def PPs (X : Cx) (pos : Pos) (keys : List (Option Expr)) (values : List Expr) (trs : List (TE × TE)) : Prop :=
  ∀ (pins : List (Addr × Obj)) (s : Shared) (σ : St) (H : Hp) (Q : List (V × V) → Hp → Prop), Inv X pins σ H s → tPairs trs σ H Q →
    wpAny (model X.prog X.w) X.A (evalPairs (pairTrees keys values X.env pos)) (fun vs s' => ∃ ps H', Inv X pins σ H' s' ∧ VV ps vs ∧ Q ps H') X.xe s
theorem pps_nil {X : Cx} {pos : Pos} : PPs X pos [] [] [] := fun pins s σ H Q I h => pairTrees_nil_walk ⟨[], H, I, .nil, h⟩
theorem pps_cons {X : Cx} {pos : Pos} {k v : Expr} {ks : List (Option Expr)} {vs : List Expr} {tk tv : TE} {trs : List (TE × TE)} (hk : PE X k tk) (hv : PE X v tv) (hr : PPs X pos ks vs trs) :
    PPs X pos (some k :: ks) (v :: vs) ((tk, tv) :: trs) := fun pins s σ H Q I h =>
  pairTrees_cons_walk (thn (hk pins s σ H _ I h) fun u s1 ⟨x, H1, I1, rx, q1⟩ => thn (hv pins s1 σ H1 _ I1 q1) fun w2 s2 ⟨y, H2, I2, ry, q2⟩ =>
    thn (hr pins s2 σ H2 _ I2 q2) fun ws s3 ⟨ps, H3, I3, rel, q3⟩ => ⟨(x, y) :: ps, H3, I3, .cons ⟨rx, ry⟩ rel, q3⟩)

def mergeK (kvs more : List (Key × V)) : List (Key × V) := more.foldl (fun acc kv => putK acc kv.1 kv.2) kvs
theorem KV.merge : ∀ {more : List (Key × V)} {rs : List (Key × Value)} {kvs : List (Key × V)} {vs : List (Key × Value)}, KV more rs → KV kvs vs → KV (mergeK kvs more) (merged vs rs) := by
  intro more rs kvs vs r
  unfold KV at r
  induction r generalizing kvs vs with
  | nil => intro q; exact q
  | @cons p q ps qs h t ih =>
    intro r0
    have e : KV (putK kvs p.1 p.2) (stored vs q.1 q.2) := by
      have := r0.put p.1 h.2
      rw [← h.1]; exact this
    exact ih e
theorem length_mergeK : ∀ (more kvs : List (Key × V)), (mergeK kvs more).length ≤ kvs.length + more.length
  | [], kvs => by show kvs.length ≤ kvs.length + 0; omega
  | p :: r, kvs => by
    have h1 := length_mergeK r (putK kvs p.1 p.2)
    have h2 := length_putK kvs p.1 p.2
    show (mergeK (putK kvs p.1 p.2) r).length ≤ _
    rw [List.length_cons]; omega
theorem carries_of {P : Program} {w : World} : ∀ {kvs : List (Key × V)} {ws : List (Value × Value)}, VV (kvs.map fun kv => (kV kv.1, kv.2)) ws → ∃ rs, Carries (mixKind P w) ws rs ∧ KV kvs rs
  | [], _, r => by rw [List.map_nil] at r; cases r; exact ⟨[], True.intro, .nil⟩
  | p :: kvs, _, r => by
    rw [List.map_cons] at r
    cases r with
    | @cons a b as bs h t =>
      obtain ⟨rs, c, q⟩ := carries_of (P := P) (w := w) t
      obtain ⟨b1, b2⟩ := b
      exact ⟨(p.1, b2) :: rs, ⟨kV_is h.1, rfl, c⟩, .cons ⟨rfl, h.2⟩ q⟩
/-- {k: v, ..} with keys ints and texts; the new dict stands empty while the pairs are made -/
def tDisp (trs : List (TE × TE)) : TE := fun σ H Q => ∀ p, H p = none → tPairs trs σ (upd H p (.dK [])) fun ps H2 => H2 p = some (.dK []) ∧ ∃ kvs : List (Key × V), ps = kvs.map (fun kv => (kV kv.1, kv.2)) ∧ kvs.length ≤ 15 ∧ Q (.ref p) (upd H2 p (.dK (mergeK [] kvs)))
theorem pe_disp {X : Cx} {pos : Pos} {keys : List (Option Expr)} {values : List Expr} {trs : List (TE × TE)} (h : PPs X pos keys values trs) (hall : keys.all (·.isSome) = true) (hl : keys.length = values.length) (h0 : keys ≠ [])
    (h15 : keys.length ≤ 15) : PE X (.Dict keys values pos) (tDisp trs) := by
  intro pins s σ H Q I q
  have hn := I.hok.fresh (Nat.le_refl s.heap.objs.size)
  have I1 := I.laid (a := s.heap.objs.size) (o := .dK []) (h' := s.heap.push { cls := .type "dict", data := .dict #[] }) (t' := s.toks) (fun _ _ q => Heap.get?_push_of_some _ q) (Nat.le_refl _) (dk_empty s.heap I.big)
  refine wpAny_Dict_walk (knd := mixKind X.prog X.w) hall hl h0 h15 (thn (h pins _ σ _ _ I1 (q _ hn)) fun ws s2 ⟨ps, H2, I2, rel, e, kvs, ep, lk, q2⟩ => ?_)
  subst ep
  obtain ⟨rs, c, rk⟩ := carries_of (P := X.prog) (w := X.w) rel
  obtain ⟨z, hd, vs0, r0, dd⟩ := dk_of I2.hok e
  cases r0
  refine ⟨rs, c, dd, fun h' dd' hs => ⟨.ref s.heap.objs.size, _, ?_, rfl, q2⟩⟩
  have hz : (mergeK [] kvs).length ≤ sizeLine := by
    have h1 := length_mergeK kvs []
    rw [List.length_nil] at h1
    rw [sizeLine_eq]; omega
  have he : ∃ q, h'.get? s.heap.objs.size = some q := let ⟨q, _, _, hq, _⟩ := dd'; ⟨q, hq⟩
  exact d_write I2 (by rw [e]; exact True.intro) hs he (dk_new hz hd (rk.merge .nil) dd')


/-! ### methods -/
/-- a method call o.m(e) of a built-in, with one argument: what must be seen of the text -/
structure M1 (X : Cx) (o : Expr) (m : Str) (apos : Pos) (e : Expr) (cpos : Pos) : Prop where
  base : attributeBase o m X.env (eval o X.env) = eval o X.env
  few : ((backTo cpos (starEach [e] X.env)).all (fun x => !x.1) && (backToKw cpos (keywordEach [] X.env)).all (fun x => x.1.isSome)
    && decide (([e] : List Expr).length + ([] : List Keyword).length + (if ([] : List Keyword).isEmpty then 0 else 1) < 30)) = true
  line : (apos.endLine == cpos.line) = true
  trees : backTo cpos (starEach [e] X.env) = [(false, eval e X.env)]
structure M2 (X : Cx) (o : Expr) (m : Str) (apos : Pos) (e f : Expr) (cpos : Pos) : Prop where
  base : attributeBase o m X.env (eval o X.env) = eval o X.env
  few : ((backTo cpos (starEach [e, f] X.env)).all (fun x => !x.1) && (backToKw cpos (keywordEach [] X.env)).all (fun x => x.1.isSome)
    && decide (([e, f] : List Expr).length + ([] : List Keyword).length + (if ([] : List Keyword).isEmpty then 0 else 1) < 30)) = true
  line : (apos.endLine == cpos.line) = true
  trees : backTo cpos (starEach [e, f] X.env) = [(false, eval e X.env), (false, eval f X.env)]

/-- a is a dict, whatever its keys -/
def IsD (H : Hp) (a : Addr) : Prop := (∃ kvs, Rd H a (.dK kvs)) ∨ ∃ kvs, Rd H a (.dT kvs)
theorem isD_at {X : Cx} {pins : List (Addr × Obj)} {σ : St} {H : Hp} {s : Shared} {a : Addr} (I : Inv X pins σ H s) (d : IsD H a) :
    s.TypeIs (.ref a) "dict" ∧ (∀ b, Value.ref a = .ref b → ∃ ob, s.heap.get? b = some ob ∧ ob.dict = none) ∧ (a == sysModules) = false := by
  rcases d with ⟨kvs, e⟩ | ⟨kvs, e⟩
  · obtain ⟨_, hd, vs, _, dd⟩ := dk_rd I.hok e
    refine ⟨dd.typeIs, fun b q => ?_, hd⟩
    cases q
    obtain ⟨ob, _, _, h1, h2, _⟩ := dd
    exact ⟨ob, h1, h2.2.1⟩
  · obtain ⟨_, hd, xs, _, dd⟩ := dt_rd I.hok e
    refine ⟨dd.typeIs, fun b q => ?_, hd⟩
    cases q
    obtain ⟨ob, _, _, h1, h2, _⟩ := dd
    exact ⟨ob, h1, h2.2.1⟩

section
variable {X : Cx} {pins : List (Addr × Obj)} {σ : St} {H : Hp} {s : Shared} {a : Addr} {y d : V} {u r : Value} {o : Option V} {A : Around} {E : Value → Shared → Prop}
/-- d.get(y) -/
theorem d_get1 {Q : Value → Shared → Prop} (hu : A.units + 1 < cLine) (I : Inv X pins σ H s) (g : DGet H a y o) (ry : RelV y u) (h : ∀ w' s', Inv X pins σ H s' → RelV (o.getD .non) w' → Q w' s') :
    wpAny (model X.prog X.w) A (call (.builtin "dict.get") [.ref a, u]) Q E s := by
  rcases g with ⟨kvs, k, e, ey, l⟩ | ⟨kvs, k, b, e, ey, eb, l⟩
  · subst ey
    obtain ⟨z, hd, vs, rel, dd⟩ := dk_rd I.hok e
    refine call_meetsIn PySem.F.slot_dict_get dd.typeIs PySem.F.entry_dict_get (PySem.F.args_dict_get_2 _ _) (meets_dict_get (mixKind X.prog X.w) a (kV_is ry) hd) ⟨_, dd.mapOf, h _ _ (I.tok _) ?_⟩
    rw [l]
    exact (rel.val k).getD rfl
  · subst ey
    cases (show u = Value.ref b from ry)
    obtain ⟨z, hd, xs, rel, dd⟩ := dt_rd I.hok e
    refine call_meetsIn PySem.F.slot_dict_get dd.typeIs PySem.F.entry_dict_get (PySem.F.args_dict_get_2 _ _) (meetsH_dict_get (tupleKind (mixKind X.prog X.w)) a b hd) ⟨tupleKind_room_in1 hu, k, xs, key_of I.hok eb, dd, h _ _ (I.tok _) ?_⟩
    rw [l]
    exact (rel.val k).getD rfl
/-- d.get(y, x) -/
theorem d_get2 {Q : Value → Shared → Prop} (hu : A.units + 1 < cLine) (I : Inv X pins σ H s) (g : DGet H a y o) (ry : RelV y u) (rd : RelV d r) (h : ∀ w' s', Inv X pins σ H s' → RelV (o.getD d) w' → Q w' s') :
    wpAny (model X.prog X.w) A (call (.builtin "dict.get") [.ref a, u, r]) Q E s := by
  rcases g with ⟨kvs, k, e, ey, l⟩ | ⟨kvs, k, b, e, ey, eb, l⟩
  · subst ey
    obtain ⟨z, hd, vs, rel, dd⟩ := dk_rd I.hok e
    refine call_meetsIn PySem.F.slot_dict_get dd.typeIs PySem.F.entry_dict_get (PySem.F.args_dict_get_3 _ _ _) (meets_dict_get_default (mixKind X.prog X.w) a (kV_is ry) hd r) ⟨_, dd.mapOf, h _ _ (I.tok _) ?_⟩
    rw [l]
    exact (rel.val k).getD rd
  · subst ey
    cases (show u = Value.ref b from ry)
    obtain ⟨z, hd, xs, rel, dd⟩ := dt_rd I.hok e
    refine call_meetsIn PySem.F.slot_dict_get dd.typeIs PySem.F.entry_dict_get (PySem.F.args_dict_get_3 _ _ _) (meetsH_dict_get_default (tupleKind (mixKind X.prog X.w)) a b hd r) ⟨tupleKind_room_in1 hu, k, xs, key_of I.hok eb, dd, h _ _ (I.tok _) ?_⟩
    rw [l]
    exact (rel.val k).getD rd
end

def tDGet1 (td ty : TE) : TE := fun σ H Q => td σ H fun x H1 => ∃ a, x = .ref a ∧ IsD H1 a ∧ ty σ H1 fun y H2 => ∃ o, DGet H2 a y o ∧ Q (o.getD .non) H2
def tDGet2 (td ty tx : TE) : TE := fun σ H Q => td σ H fun x H1 => ∃ a, x = .ref a ∧ IsD H1 a ∧ ty σ H1 fun y H2 => tx σ H2 fun z H3 => ∃ o, DGet H3 a y o ∧ Q (o.getD z) H3
/-- d.pop(k): there; d.pop(k, x): there or not -/
def tDPop1 (td ty : TE) : TE := fun σ H Q => td σ H fun x H1 => ∃ a, x = .ref a ∧ IsD H1 a ∧ ty σ H1 fun y H2 => ∃ kvs k v, H2 a = some (.dK kvs) ∧ y = kV k ∧ valV kvs k = some v ∧ Q v (upd H2 a (.dK (dropK kvs k)))
def tDPop2 (td ty tx : TE) : TE := fun σ H Q => td σ H fun x H1 => ∃ a, x = .ref a ∧ IsD H1 a ∧ ty σ H1 fun y H2 => tx σ H2 fun z H3 => ∃ kvs k, H3 a = some (.dK kvs) ∧ y = kV k ∧
  (∀ v, valV kvs k = some v → Q v (upd H3 a (.dK (dropK kvs k)))) ∧ (valV kvs k = none → Q z H3)
section
variable {X : Cx} {o e f : Expr} {apos cpos : Pos} {td ty tx : TE}
theorem pe_dget1 (hu : X.A.units + 1 < cLine) (ho : PE X o td) (he : PE X e ty) (m : M1 X o "get" apos e cpos) : PE X (.Call (.Attribute o "get" apos) [e] [] cpos) (tDGet1 td ty) := by
  intro pins s σ H Q I h
  refine wpAny_Call_method m.base m.few m.line PySem.F.plainAttrs_dict PySem.F.slot_dict_get PySem.F.type_dict_get (thn (ho pins s σ H _ I h) fun u s1 ⟨x, H1, I1, rx, a, ex, d, q1⟩ => ?_)
  subst ex
  obtain rfl : u = Value.ref a := rx
  obtain ⟨t1, t2, _⟩ := isD_at I1 d
  refine ⟨t1, t2, ?_⟩
  rw [m.trees]
  refine Calls.callWith_builtin rfl (Calls.evalArgs_plain (Calls.spliced_cons (thn (he pins s1 σ H1 _ I1 q1) fun iv s2 ⟨y, H2, I2, ry, ov, g, q2⟩ => Calls.spliced_nil ?_)))
  exact d_get1 hu I2 g ry fun w' s3 I3 rw' => ⟨_, H2, I3, rw', q2⟩
theorem pe_dget2 (hu : X.A.units + 1 < cLine) (ho : PE X o td) (he : PE X e ty) (hf : PE X f tx) (m : M2 X o "get" apos e f cpos) : PE X (.Call (.Attribute o "get" apos) [e, f] [] cpos) (tDGet2 td ty tx) := by
  intro pins s σ H Q I h
  refine wpAny_Call_method m.base m.few m.line PySem.F.plainAttrs_dict PySem.F.slot_dict_get PySem.F.type_dict_get (thn (ho pins s σ H _ I h) fun u s1 ⟨x, H1, I1, rx, a, ex, d, q1⟩ => ?_)
  subst ex
  obtain rfl : u = Value.ref a := rx
  obtain ⟨t1, t2, _⟩ := isD_at I1 d
  refine ⟨t1, t2, ?_⟩
  rw [m.trees]
  refine Calls.callWith_builtin rfl (Calls.evalArgs_plain (Calls.spliced_cons (thn (he pins s1 σ H1 _ I1 q1) fun iv s2 ⟨y, H2, I2, ry, q2⟩ =>
    Calls.spliced_cons (thn (hf pins s2 σ H2 _ I2 q2) fun fv s3 ⟨z, H3, I3, rz, ov, g, q3⟩ => Calls.spliced_nil ?_))))
  exact d_get2 hu I3 g ry rz fun w' s4 I4 rw' => ⟨_, H3, I4, rw', q3⟩
theorem pe_dpop1 (ho : PE X o td) (he : PE X e ty) (m : M1 X o "pop" apos e cpos) : PE X (.Call (.Attribute o "pop" apos) [e] [] cpos) (tDPop1 td ty) := by
  intro pins s σ H Q I h
  refine wpAny_Call_method m.base m.few m.line PySem.F.plainAttrs_dict PySem.F.slot_dict_pop PySem.F.type_dict_pop (thn (ho pins s σ H _ I h) fun u s1 ⟨x, H1, I1, rx, a, ex, d, q1⟩ => ?_)
  subst ex
  obtain rfl : u = Value.ref a := rx
  obtain ⟨t1, t2, _⟩ := isD_at I1 d
  refine ⟨t1, t2, ?_⟩
  rw [m.trees]
  refine Calls.callWith_builtin rfl (Calls.evalArgs_plain (Calls.spliced_cons (thn (he pins s1 σ H1 _ I1 q1) fun iv s2 ⟨y, H2, I2, ry, kvs, k, v, ea, ey, l, q2⟩ => Calls.spliced_nil ?_)))
  subst ey
  exact d_pop I2 ea ry l (.inl rfl) fun w' s3 I3 rw' => ⟨v, _, I3, rw', q2⟩
theorem pe_dpop2 (ho : PE X o td) (he : PE X e ty) (hf : PE X f tx) (m : M2 X o "pop" apos e f cpos) : PE X (.Call (.Attribute o "pop" apos) [e, f] [] cpos) (tDPop2 td ty tx) := by
  intro pins s σ H Q I h
  refine wpAny_Call_method m.base m.few m.line PySem.F.plainAttrs_dict PySem.F.slot_dict_pop PySem.F.type_dict_pop (thn (ho pins s σ H _ I h) fun u s1 ⟨x, H1, I1, rx, a, ex, d, q1⟩ => ?_)
  subst ex
  obtain rfl : u = Value.ref a := rx
  obtain ⟨t1, t2, _⟩ := isD_at I1 d
  refine ⟨t1, t2, ?_⟩
  rw [m.trees]
  refine Calls.callWith_builtin rfl (Calls.evalArgs_plain (Calls.spliced_cons (thn (he pins s1 σ H1 _ I1 q1) fun iv s2 ⟨y, H2, I2, ry, q2⟩ =>
    Calls.spliced_cons (thn (hf pins s2 σ H2 _ I2 q2) fun fv s3 ⟨z, H3, I3, rz, kvs, k, ea, ey, q3, q4⟩ => Calls.spliced_nil ?_))))
  subst ey
  cases l : valV kvs k with
  | some v => exact d_pop I3 ea ry l (.inr ⟨fv, rfl⟩) fun w' s4 I4 rw' => ⟨v, _, I4, rw', q3 v l⟩
  | none => exact d_popD I3 ea ry l fun s4 I4 => ⟨z, H3, I4, rz, q4 l⟩
end

/-! ### dict(d): a copy -/
section
variable {X : Cx} {pins : List (Addr × Obj)} {σ : St} {H : Hp} {s : Shared} {a : Addr} {kvs : List (Key × V)} {A : Around} {E : Value → Shared → Prop}
theorem d_copyOf {Q : Value → Shared → Prop} (I : Inv X pins σ H s) (e : Rd H a (.dK kvs)) (h : ∀ p s', H p = none → Inv X pins σ (upd H p (.dK kvs)) s' → Q (.ref p) s') : wpAny (model X.prog X.w) A (call (.type "dict") [.ref a]) Q E s := by
  obtain ⟨z, hd, vs, rel, dd⟩ := dk_rd I.hok e
  refine kt_call_dict hd dd (by rw [← rel.length]; exact z) fun h' dd' hs => ?_
  refine h _ _ (I.hok.fresh (Nat.le_refl _)) (I.laid (a := s.heap.objs.size) (o := .dK kvs) (t' := s.toks) (fun b q hq => ?_) (Nat.le_refl _) (dk_new z (beq_eq_false_iff_ne.mpr (Ne.symm (Nat.ne_of_lt I.big))) rel dd'))
  exact (hs.2 b (Nat.ne_of_lt (Heap.lt_size hq))).trans (Heap.get?_push_of_some _ hq)
end


section
variable {X : Cx} {pins : List (Addr × Obj)} {σ : St} {H : Hp} {s : Shared} {a : Addr} {y : V} {u : Value} {A : Around} {E : Value → Shared → Prop}
/-- d[y], not there: a KeyError -/
theorem d_missing {Q : Value → Shared → Prop} (hu : A.units + 1 < cLine) (hh : A.handled = none) (I : Inv X pins σ H s) (g : DGet H a y none) (ry : RelV y u)
    (h : ∀ h' e t', Heap.NewExc s.heap h' e "KeyError" → E (.ref e) { s with heap := h', toks := t' }) : wpAny (model X.prog X.w) A (getItem (.ref a) u) Q E s := by
  rcases g with ⟨kvs, k, e, ey, l⟩ | ⟨kvs, k, b, e, ey, eb, l⟩
  · subst ey
    obtain ⟨z, hd, vs, rel, dd⟩ := dk_rd I.hok e
    have hn : valueAt vs k = none := RelO.none_of (by rw [l]; exact rel.val k)
    exact wpAny_getItem_missing_of (kV_is ry) hd hh dd.mapOf hn fun h' ex ne => h h' ex _ ne
  · subst ey
    cases (show u = Value.ref b from ry)
    obtain ⟨z, hd, xs, rel, dd⟩ := dt_rd I.hok e
    have hn : (atKey xs k).map (·.2) = none := RelO.none_of (by rw [l]; exact rel.val k)
    exact wpAny_getItem_missing_heap (tupleKind_room_in1 hu) (key_of I.hok eb) hd hh dd (Option.map_eq_none_iff.mp hn) fun h' ex ne => h h' ex _ ne
end
end L2

namespace Att
open PySem PySem.W PySem.Calls PyProof.Rows

/-! ### the script -/
theorem ints_of_wellAll {P : Params} {h : Heap} : ∀ (ns : List Int) (vs : List Value), WellAll P h vs (ns.map WData.int) → IntsAre vs ns := by
  intro ns
  induction ns with
  | nil =>
    intro vs w
    rw [List.map_nil] at w
    cases w
    exact .nil
  | cons n ns ih =>
    intro vs w
    rw [List.map_cons] at w
    cases w with
    | cons a b =>
      cases a
      exact .cons _ _ (ih _ b)

theorem script_of {l : OpenLaw} {n : Nat} (hn : l.most = some n) {P : Params} {h : Heap} {args : List WData} {vals : List Value}
    (hpre : l.row.toRowW.claim.pre args = true) (hwl : WellAll P h vals args) :
    ∃ a vs ns, vals = [Value.ref a] ∧ args = [WData.list (ns.map WData.int)] ∧ h.get? a = some { cls := .type "list", data := .seq vs.toArray } ∧ IntsAre vs ns ∧ ns.length ≤ n := by
  have hsh : WShape.hasAll [] args [.list .int] = true := (pre_splitW hpre).1
  have hc : l.pre.holds [] { args := args } = true := (pre_splitW hpre).2
  obtain ⟨d, r, rfl, h1, h2⟩ := hasAllW_cons hsh
  obtain rfl := hasAllW_nil h2
  obtain ⟨xs, rfl, h3⟩ := hasW_list h1
  obtain ⟨ns, rfl⟩ := items_int h3
  have hlen : ns.length ≤ n := by
    unfold OpenLaw.pre at hc
    have h4 : (WTm.not (.lt (.lit (.int (n : Int))) (.len (.arg 0)))).holds [] { args := [.list (ns.map .int)] } = true := by
      have h4 := (holds_andW hc).1
      rw [hn] at h4
      exact h4
    have h5 := condW_of h4 (w_not (w_lt w_lit (w_len_list (w_arg rfl))))
    rw [List.length_map] at h5
    refine Nat.le_of_not_lt fun q => ?_
    have q' : (n : Int) < ((ns.length : Nat) : Int) := by omega
    first
      | (rw [decide_eq_true q'] at h5; exact absurd h5 (by decide))
      | (simp at h5; omega)
  cases hwl with
  | cons w1 w2 =>
    cases w2
    cases w1 with
    | list ho hall => exact ⟨_, _, ns, rfl, rfl, ho, ints_of_wellAll ns _ hall, hlen⟩

theorem post_true (l : OpenLaw) (args : List WData) : l.row.toRowW.claim.post args (.bool true) args = true :=
  postW_of (r := l.row.toRowW) (X := (true == true))
    (show WShape.has [] (.bool true) .bool = true by first | rfl | decide | simp [WShape.has, WShape.arms, WShape.armsAll])
    (show (WTm.eq .res (.lit (.bool true))).value [] { args := args, res := some (.bool true), after := args } = some (.bool (true == true)) from w_eq_bool (w_res rfl) w_lit) rfl

/-! ### the attachment: holds_open's last premise (the goal 'hc' behind k_head) from a wpAny of the law's body -/
theorem attach {l : OpenLaw} {n : Nat} {q : Program} {loose : List Str} {XP : (Str → Option Value) → Heap → Prop} {YP : World → Heap → Prop} {d : DefRec} {x : Str}
    (hn : l.most = some n) (hdf : d.params.defaults = [])
    (hbind : ∀ pm cd doc v : Value, bindArgs (docDef d.name d.params d.body d.scope pm cd doc) ⟨[v], []⟩ = pure [(x, v)])
    (hx : d.scope.names.lookup x = some .local ∨ d.scope.names.lookup x = some .cell)
    (hk : d.scope.kind = .function) (hco : d.scope.isCoroutine = false) (hgen : d.scope.isGenerator = false)
    (body : ∀ (w : World) (s₀ s₁ s : Shared) (mg mb : Str → Option Value) (fa : Addr) (o : Obj) (pm cd doc : Value) (a : Addr) (vs : List Value) (ns : List Int),
      Ground q loose [] XP w s₀ mg mb s₁.heap → YP w s₁.heap →
      s₁.heap.get? fa = some o → o.data = .func (docDef d.name d.params d.body d.scope pm cd doc) → s₁.heap.CodeRec cd d.name → mg d.name = some (.ref fa) →
      s₁.heap.get? a = some { cls := .type "list", data := .seq vs.toArray } → IntsAre vs ns → ns.length ≤ n →
      s.gens = #[] → s.os = s₁.os →
      Fr s₁.heap s₁.heap.objs.size s.heap (bindL (envOfC d.name d.scope s₁.heap.objs.size fa cd).kindOf [(x, .ref a)] fun _ => none) →
      Cl s₁.heap.objs.size (cellsFrom (s₁.heap.objs.size + 1) d.scope.names []) s.heap (bindC (envOfC d.name d.scope s₁.heap.objs.size fa cd).kindOf [(x, .ref a)] fun _ => none) →
      wpAny (model l.prog w) (callerA.deeper (envOfC d.name d.scope s₁.heap.objs.size fa cd)) (execs d.body (envOfC d.name d.scope s₁.heap.objs.size fa cd))
        (fun f s' => f = .ret (.bool true) ∧ OldK s₁.heap s'.heap ∧ s'.os = s₁.os ∧ AllBare s'.gens) (fun _ _ => False) s) :
    WalkO q loose XP YP l.row.toRowW d [] (fun f vs => PySem.call f vs) := by
  intro w s₀ s₁ mg mb G Y fa o pm cd doc dV kV ho hd hcd hD hmg hg args vals as hpre hlay hrd hwl hlo
  obtain rfl : dV = .none := Dflts.none hD hdf
  obtain rfl : kV = .none := Dflts.noKw hD
  obtain ⟨a, vs, ns, rfl, rfl, hobj, hints, hlen⟩ := script_of hn hpre hwl
  refine enter_call ?_
  refine call_cells_ret (o := o) (by rw [depth_caller]; decide) ho (fd_plain hd) G.T.nolimit hcd (hbind pm cd doc (.ref a)) (fun y hy => ?_) (fun h₁ tk F X => ?_) hco hgen hk
  · obtain rfl : y = (x, Value.ref a) := List.mem_singleton.mp hy
    rcases hx with e | e
    · exact .inl e
    · exact .inr ⟨e, cellsFrom_some _ _ _ (.inl e)⟩
  · refine wpAny_mono (body w s₀ s₁ { s₁ with heap := h₁, toks := tk } mg mb fa o pm cd doc a vs ns G Y ho (fd_plain hd) hcd hmg hobj hints hlen hg rfl F X) (fun f s' hq => ?_) (fun _ _ hq => hq)
    obtain ⟨rfl, h2, h3, h4⟩ := hq
    exact ⟨.inl ⟨.bool true, .bool true, [], rfl, fun _ => rfl, .bool true, post_true l _, fun _ => ⟨List.Pairwise.nil, fun _ hm => (nomatch hm)⟩⟩, h2, h3, h4⟩

/-- the same from a codeAny of the CALL (for a layer whose function contracts speak of calls) -/
theorem attach_call {l : OpenLaw} {n : Nat} {q : Program} {loose : List Str} {XP : (Str → Option Value) → Heap → Prop} {YP : World → Heap → Prop} {d : DefRec}
    (hn : l.most = some n) (hdf : d.params.defaults = [])
    (call : ∀ (w : World) (s₀ s₁ : Shared) (mg mb : Str → Option Value) (fa : Addr) (o : Obj) (pm cd doc : Value) (a : Addr) (vs : List Value) (ns : List Int),
      Ground q loose [] XP w s₀ mg mb s₁.heap → YP w s₁.heap →
      s₁.heap.get? fa = some o → o.data = .func (docDef d.name d.params d.body d.scope pm cd doc) → s₁.heap.CodeRec cd d.name → mg d.name = some (.ref fa) →
      s₁.heap.get? a = some { cls := .type "list", data := .seq vs.toArray } → IntsAre vs ns → ns.length ≤ n → s₁.gens = #[] →
      codeAny (model l.prog w) callerA (.call (.ref fa) ⟨[.ref a], []⟩) (fun r s' => r = .ok (.ret (.bool true)) ∧ OldK s₁.heap s'.heap ∧ s'.os = s₁.os ∧ AllBare s'.gens) s₁) :
    WalkO q loose XP YP l.row.toRowW d [] (fun f vs => PySem.call f vs) := by
  intro w s₀ s₁ mg mb G Y fa o pm cd doc dV kV ho hd hcd hD hmg hg args vals as hpre hlay hrd hwl hlo
  obtain rfl : dV = .none := Dflts.none hD hdf
  obtain rfl : kV = .none := Dflts.noKw hD
  obtain ⟨a, vs, ns, rfl, rfl, hobj, hints, hlen⟩ := script_of hn hpre hwl
  refine enter_call (codeAny_mono (call w s₀ s₁ mg mb fa o pm cd doc a vs ns G Y ho (fd_plain hd) hcd hmg hobj hints hlen hg) fun r s' hq => ?_)
  obtain ⟨rfl, h2, h3, h4⟩ := hq
  exact ⟨.inl ⟨.bool true, .bool true, [], rfl, fun _ => rfl, .bool true, post_true l _, fun _ => ⟨List.Pairwise.nil, fun _ hm => (nomatch hm)⟩⟩, h2, h3, h4⟩

/-- the same where the top left finished generators (o_head chose holds_openN): nothing may have changed at all and no generator may be left -/
theorem attachN {l : OpenLaw} {n : Nat} {q : Program} {loose : List Str} {XP : (Str → Option Value) → Heap → Prop} {YP : World → Heap → Prop} {d : DefRec} {x : Str}
    (hn : l.most = some n) (hdf : d.params.defaults = [])
    (hbind : ∀ pm cd doc v : Value, bindArgs (docDef d.name d.params d.body d.scope pm cd doc) ⟨[v], []⟩ = pure [(x, v)])
    (hx : d.scope.names.lookup x = some .local ∨ d.scope.names.lookup x = some .cell)
    (hk : d.scope.kind = .function) (hco : d.scope.isCoroutine = false) (hgen : d.scope.isGenerator = false)
    (body : ∀ (w : World) (s₀ s₁ s : Shared) (mg mb : Str → Option Value) (fa : Addr) (o : Obj) (pm cd doc : Value) (a : Addr) (vs : List Value) (ns : List Int),
      Ground q loose [] XP w s₀ mg mb s₁.heap → YP w s₁.heap →
      s₁.heap.get? fa = some o → o.data = .func (docDef d.name d.params d.body d.scope pm cd doc) → s₁.heap.CodeRec cd d.name → mg d.name = some (.ref fa) →
      s₁.heap.get? a = some { cls := .type "list", data := .seq vs.toArray } → IntsAre vs ns → ns.length ≤ n →
      s.gens = #[] → s.os = s₁.os →
      Fr s₁.heap s₁.heap.objs.size s.heap (bindL (envOfC d.name d.scope s₁.heap.objs.size fa cd).kindOf [(x, .ref a)] fun _ => none) →
      Cl s₁.heap.objs.size (cellsFrom (s₁.heap.objs.size + 1) d.scope.names []) s.heap (bindC (envOfC d.name d.scope s₁.heap.objs.size fa cd).kindOf [(x, .ref a)] fun _ => none) →
      wpAny (model l.prog w) (callerA.deeper (envOfC d.name d.scope s₁.heap.objs.size fa cd)) (execs d.body (envOfC d.name d.scope s₁.heap.objs.size fa cd))
        (fun f s' => f = .ret (.bool true) ∧ (∀ b o, s₁.heap.get? b = some o → s'.heap.get? b = some o) ∧ s'.os = s₁.os ∧ s'.gens = #[]) (fun _ _ => False) s) :
    WalkN q loose XP YP l.row.toRowW d [] (fun f vs => PySem.call f vs) := by
  intro w s₀ s₁ mg mb G Y fa o pm cd doc dV kV ho hd hcd hD hmg hg args vals as hpre hlay hrd hwl hlo
  obtain rfl : dV = .none := Dflts.none hD hdf
  obtain rfl : kV = .none := Dflts.noKw hD
  obtain ⟨a, vs, ns, rfl, rfl, hobj, hints, hlen⟩ := script_of hn hpre hwl
  refine enter_callW ?_
  refine call_cells_ret (o := o) (by rw [depth_caller]; decide) ho (fd_plain hd) G.T.nolimit hcd (hbind pm cd doc (.ref a)) (fun y hy => ?_) (fun h₁ tk F X => ?_) hco hgen hk
  · obtain rfl : y = (x, Value.ref a) := List.mem_singleton.mp hy
    rcases hx with e | e
    · exact .inl e
    · exact .inr ⟨e, cellsFrom_some _ _ _ (.inl e)⟩
  · refine wpAny_mono (body w s₀ s₁ { s₁ with heap := h₁, toks := tk } mg mb fa o pm cd doc a vs ns G Y ho (fd_plain hd) hcd hmg hobj hints hlen hg rfl F X) (fun f s' hq => ?_) (fun _ _ hq => hq)
    obtain ⟨rfl, h2, h3, h4⟩ := hq
    exact ⟨.inl ⟨.bool true, .bool true, [], rfl, fun _ => rfl, .bool true, post_true l _, fun _ => ⟨List.Pairwise.nil, fun _ hm => (nomatch hm)⟩⟩, h2, h3, h4⟩

/-! ### rules over ANY heap (no ledger) from facts about the written part K: the library's own take a ledger (News) for what they write -/
section
variable {prog : Program} {w : World} {A : Around} {E : Value → Shared → Prop} {s : Shared} {K : Frag}

/-- a def of the module, or a method (qual 'C.m'), entered: the frame is the next address; cells behind it -/
theorem call_fn {R : Result → Shared → Prop} {name qual : Str} {params : Arguments} {body : List Stmt} {scope : Scope} {dV kV doc pm cdv ct oc : Value} {an od : Option Addr} {osl : Array (Option Value)} {f : Addr} {args : Args} {binds : List (Str × Value)}
    (X : K.In s.heap) (hlim : s.heap.NoLimit) (ho : K.lookup f = some ⟨oc, od, .func (fnOf name qual params body scope dV kV doc pm an cdv ct), osl⟩) (hcd : codeIn K cdv qual = true) (hroom : A.depth < recursionLimit)
    (hbind : BindsTo s (fnOf name qual params body scope dV kV doc pm an cdv ct) args binds)
    (hkind : (binds.all fun y => scope.names.lookup y.1 == some .local || scope.names.lookup y.1 == some .cell) = true)
    (h : ∀ s₁, InCallC s s.heap.objs.size (bindL (envOfC qual scope s.heap.objs.size f cdv).kindOf binds fun _ => none) (cellsFrom (s.heap.objs.size + 1) scope.names [])
        (bindC (envOfC qual scope s.heap.objs.size f cdv).kindOf binds fun _ => none) s₁ →
      wpAny (model prog w) (A.deeper (envOfC qual scope s.heap.objs.size f cdv)) (execs body (envOfC qual scope s.heap.objs.size f cdv))
        (fun fl s' => R (.ok (.ret (match fl with | .ret v => v | _ => .none))) s')
        (fun e s' => wpAny (model prog w) (A.deeper (envOfC qual scope s.heap.objs.size f cdv)) (leaving (envOfC qual scope s.heap.objs.size f cdv) e) (fun _ s'' => R (.error e) s'') (fun e' s'' => R (.error e') s'') s') s₁)
    (hco : scope.isCoroutine = false) (hgen : scope.isGenerator = false) (hk : scope.kind = .function) : codeAny (model prog w) A (.call (.ref f) args) R s := by
  refine codeAny_call_function hroom (X _ _ ho) rfl hco hgen rfl (codeRec_of X hcd) (hbind _ _ _ _ ?_)
  refine wpAny_newFunctionEnv_cells hk (kindsX hkind _) fun env he s₁ x => ?_
  subst he
  exact ⟨hlim.keeps x.toInCall.keep, codeAny_func (h s₁ x)⟩

/-- C(..): dict at size, instance at size + 1, then __init__ -/
theorem make_obj {R : Result → Shared → Prop} {C fI : Addr} {rest : List Value} {kw : List (Str × Value)}
    (X : K.In s.heap) (hm : makesIn K C = true) (hi : findIn K (.ref C) "__init__" = some (some (.ref fI))) (hf : isFn K (.ref fI) = true)
    (h : codeAny (model prog w) (A.under (.builtin "type.__call__" ⟨.ref C :: rest, kw⟩)) (.call (.ref fI) ⟨.ref (s.heap.objs.size + 1) :: rest, kw⟩) (InitBack (s.heap.objs.size + 1) R)
      { s with heap := (s.heap.push emptyDict).push (instObj C s.heap.objs.size) }) : codeAny (model prog w) A (.call (.ref C) ⟨rest, kw⟩) R s := by
  obtain ⟨hh, g, d, t, os⟩ := s
  exact make_core (makes_of X hm) (looks_findIn X hi) (fun self => bind_fn X self (beq_iff_eq.mp hf)) (.inl rfl) h

/-- x.name where the instance's dict holds the name and the class does not -/
theorem get_field {x C : Addr} {ox : Obj} {es : List DictEntry} {n : Nat} {name : Str} {expr : Bool} {v : Value} {Q : Value → Shared → Prop}
    (X : K.In s.heap) (I : PySem.W.InstAt s.heap x ox C (some (dictOf es n))) (hg : plainGet K C name = true) (hh : hasDictIn K C = true) (ha : findIn K (.ref C) name = some none)
    (hl : getL name es = some (some v)) (hv : handedIn v = true) (h : Q v { s with toks := s.toks + 1 }) : wpAny (model prog w) A (getAttr (.ref x) name expr) Q E s :=
  get_value X I (plainGet_of hg).1 (findObj_own hh ha rfl hl) hv h

/-- x.m(..): the method found in the class -/
theorem get_method {x C f : Addr} {ox : Obj} {es : List DictEntry} {n : Nat} {name : Str} {pl : Sem Bool} {Q : Value × List Value → Shared → Prop}
    (X : K.In s.heap) (I : PySem.W.InstAt s.heap x ox C (some (dictOf es n))) (hg : plainGet K C name = true) (hf : findIn K (.ref C) name = some (some (.ref f))) (ht : isFn K (.ref f) = true)
    (hl : getL name es = some none) (h : Q (.ref f, [.ref x]) s) : wpAny (model prog w) A (getMethod (.ref x) name pl) Q E s :=
  method_fn X I (plainGet_of hg).1 (plainGet_of hg).2 hf (beq_iff_eq.mp ht) (by show (lookIn name (dictOf es n)).map _ = _; rw [lookIn_dict, hl]; rfl) h

/-! the whole heap as the ledger: makes every rule that writes through a ledger a rule over any heap -/
def noObjs (h : Heap) : Heap := { h with objs := #[] }
theorem noObjs_get (h : Heap) (b : Addr) : (noObjs h).get? b = none := by
  cases e : (noObjs h).get? b with
  | none => rfl
  | some o => exact absurd (Heap.lt_size e) (Nat.not_lt_zero _)
def ledger (h : Heap) (L d : Addr) : List (Addr × Obj) := (List.range h.objs.size).filterMap fun a => if a = L ∨ a = d then none else (h.get? a).map fun o => (a, o)
theorem mem_ledger {h : Heap} {L d a : Addr} {o : Obj} : (a, o) ∈ ledger h L d ↔ a ≠ L ∧ a ≠ d ∧ h.get? a = some o := by
  unfold ledger
  rw [List.mem_filterMap]
  constructor
  · rintro ⟨b, _, e⟩
    split at e
    · cases e
    · rename_i hb
      obtain ⟨o', ho, e'⟩ := Option.map_eq_some_iff.mp e
      cases e'
      exact ⟨fun q => hb (.inl q), fun q => hb (.inr q), ho⟩
  · rintro ⟨n1, n2, ho⟩
    refine ⟨a, List.mem_range.mpr (Heap.lt_size ho), ?_⟩
    rw [if_neg (show ¬ (a = L ∨ a = d) from fun q => q.elim n1 n2), ho] <;> rfl
theorem news_ledger {h : Heap} {L d : Addr} {od : Obj} (hne : d ≠ L) (ho : h.get? d = some od) : News (noObjs h) L h ([] ++ (d, od) :: ledger h L d) := by
  rintro ⟨a, o⟩ hp
  rcases List.mem_cons.mp hp with e | hp
  · cases e
    exact ⟨ho, hne, noObjs_get _ _⟩
  · obtain ⟨n1, n2, e⟩ := mem_ledger.mp hp
    exact ⟨e, n1, noObjs_get _ _⟩
theorem fr_all {h : Heap} {L : Addr} {m : Str → Option Value} (n : h.Ns L m) : Fr (noObjs h) L h m :=
  ⟨n, fun b o e => (by rw [noObjs_get] at e; cases e), Nat.zero_le _⟩
/-- Upd of the head entry (for append_K, setItem_K ..) -/
theorem upd_ledger {h : Heap} {L d : Addr} {o o' : Obj} : Upd d o o' ((d, o) :: ledger h L d) ((d, o') :: ledger h L d) :=
  .head fun ⟨_, _⟩ hp => (mem_ledger.mp hp).2.1

/-- x.name = v over any heap: L is any namespace of the heap (the frame's, say): its map stays, its object is not told; all else but the dict stays -/
theorem set_field {x C dx L : Addr} {ox : Obj} {m : Str → Option Value} {es es' : List DictEntry} {n n' : Nat} {name : Str} {v : Value} {Q : Unit → Shared → Prop}
    (X : K.In s.heap) (I : PySem.W.InstAt s.heap x ox C (some (dictOf es n))) (hd : ox.dict = some dx) (hL : s.heap.Ns L m) (hne : dx ≠ L)
    (hs : findIn K (.ref C) "__setattr__" = some (some (.builtin "object.__setattr__"))) (hp : plainOver K C = true) (ht : takerIn K C name = some none) (hh : hasDictIn K C = true) (hl : (getL name es).isSome = true)
    (e : (putL name (PyData.keyHash w.params name) (.str name (s.toks + 1)) v es, putN name es n) = (es', n')) (hz : es'.length ≤ 1000)
    (h : ∀ h' : Heap, h'.Ns L m → h'.get? dx = some (dictOf es' n') → (∀ b o, b ≠ dx → b ≠ L → s.heap.get? b = some o → h'.get? b = some o) → Q () { s with heap := h', toks := s.toks + 2 }) :
    wpAny (model prog w) A (setAttr (.ref x) name v) Q E s := by
  obtain ⟨e1, e2⟩ := Prod.mk.inj e
  have hdx : s.heap.get? dx = some (dictOf es n) := by
    have := I.dict
    rw [hd] at this
    exact this
  refine set_plain X I hs (osa_dict (s := { s with toks := s.toks + 1 }) (h₀ := noObjs s.heap) (L := L) (m := m) (od := dictOf es n) (od' := dictOf es' n') (es := es') (n := n') (pre := []) (post := ledger s.heap L dx)
    (fr_all hL) (news_ledger hne hdx) X I hd hp ht hh hl (fun _ q => nomatch q) (fun ⟨_, _⟩ q => (mem_ledger.mp q).2.1) (by rw [putName_dict, e1, e2]) rfl hz fun h' F' N' => ?_)
  exact h h' F'.ns (N'.get (List.Mem.head _)) fun b o n1 n2 ho => N'.get (List.Mem.tail _ (mem_ledger.mpr ⟨n2, n1, ho⟩))
end
end Att

namespace L2
open PySem PySem.Spec PyProof.Rows

theorem vals_ints : ∀ {vs : List Value} {ns : List Int}, IntsAre vs ns → Vals (ns.map V.int) vs
  | _, _, .nil => .nil
  | _, _, .cons n t h => .cons ⟨t, rfl⟩ (vals_ints h)

/-- nothing is tracked but the script, known to the object (or it is an object of the module) -/
def Only (H : Hp) : Prop := ∀ b, H b = none ∨ ∃ o xs, H b = some (.frz o (.lst xs))

/-- THE HEAD: the law's promise, at the heap behind the top. F, the promise of the law's def, may use that base is part of the heap (so K.In base, base.Ns mainGlobals mg stand in Mod) -/
theorem law_call {P : Program} {w : World} {K : PySem.W.Frag} {mg mb : Str → Option Value} {CX : CXT} {k : Nat} {fa a : Addr} {fd : FuncData} {x : Str} {sp : Sp} {s₁ : Shared} {vs : List Value} {ns : List Int}
    (KX : K.In s₁.heap) (hns : s₁.heap.Ns mainGlobals mg) (hb : s₁.heap.Ns builtinsNs mb) (hbb : ∀ x : Str, x ≠ "__name__" → mb x = bootBuiltins x) (hlim : s₁.heap.NoLimit) (hg : s₁.gens = #[])
    (ha : s₁.heap.get? a = some { cls := .type "list", data := .seq vs.toArray }) (hi : IntsAre vs ns) (hl : ns.length ≤ sizeLine) (hr : Room k callerA)
    (F : ∀ base : Heap, K.In base → base.Ns mainGlobals mg → FnOk P w K mg base CX k fa fd [x] sp) (hbind : ∀ (s : Shared) (u : Value), BindsTo s fd ⟨[u], []⟩ [(x, u)])
    (hsp : ∀ H : Hp, Only H → SqL K H a (ns.map V.int) → sp [.ref a] H (fun v _ => v = .bl true) fun _ _ _ => False)
    (hCX : ∀ H e s', CX [] H s₁ (fun _ _ _ => False) e s' → False) :
    codeAny (model P w) callerA (.call (.ref fa) ⟨[.ref a], []⟩) (fun r s' => r = .ok (.ret (.bool true)) ∧ OldK s₁.heap s'.heap ∧ s'.os = s₁.os ∧ AllBare s'.gens) s₁ := by
  have rv := vals_ints hi
  have lenV := hi.length
  -- from an abstract heap in which nothing but the script may be tracked
  have core : ∀ H : Hp, Only H → SqL K H a (ns.map V.int) → HOk P w H s₁.heap → (∀ b, H b ≠ none → b = a) → (H a ≠ none → K.lookup a = none) →
      codeAny (model P w) callerA (.call (.ref fa) ⟨[.ref a], []⟩) (fun r s' => r = .ok (.ret (.bool true)) ∧ OldK s₁.heap s'.heap ∧ s'.os = s₁.os ∧ AllBare s'.gens) s₁ := by
    intro H hO hS hok hA hK
    have base_of : ∀ {b : Addr} {o : Obj}, s₁.heap.get? b = some o → H b = none → (hidT s₁.heap H).get? b = some o := fun e n => hidT_get e n
    have noA : ∀ {b : Addr} {o : Obj} {es : Array DictEntry} {ep : Nat}, s₁.heap.get? b = some o → o.data = .dict es ep → H b = none := fun {b o es ep} e d => by
      cases q : H b with
      | none => rfl
      | some u =>
        have e' : b = a := hA b (by rw [q]; simp)
        subst e'
        rw [ha] at e; cases e
        have d' : Data.seq vs.toArray _ = Data.dict es ep := d
        cases d'
    have nsK : ∀ {b : Addr} {m : Str → Option Value}, s₁.heap.Ns b m → (hidT s₁.heap H).Ns b m := fun {b m} ⟨o, es, ep, e, d, r⟩ => ⟨o, es, ep, base_of e (noA e d), d, r⟩
    have hKb : K.In (hidT s₁.heap H) := fun b o e => base_of (KX b o e) (by
      cases q : H b with
      | none => rfl
      | some u =>
        have e' : b = a := hA b (by rw [q]; simp)
        subst e'
        rw [hK (by rw [q]; simp)] at e; cases e)
    have hM : Mod K mg (hidT s₁.heap H) := ⟨hKb, nsK hns, ⟨mb, nsK hb, hbb⟩, let ⟨mc, h1, h2⟩ := hlim; ⟨mc, nsK h1, h2⟩⟩
    have e0 : Env0 P w K mg (hidT s₁.heap H) callerA [] s₁ H := ⟨rfl, hM, fun b o e => of_hidT e, Nat.le_of_eq (hidT_size _ _), trivial, fun b hb => absurd (show b ∈ ([] : List Addr) from hb) (by simp), hok, .of_eq hg⟩
    refine codeAny_mono ((F _ hKb (nsK hns)).run callerA [] s₁ H ⟨[.ref a], []⟩ [.ref a] [.ref a] _ _ hr e0 (hbind s₁ (.ref a)) (.cons rfl .nil) (hsp H hO hS)) fun r s' h => ?_
    cases r with
    | error e => exact (hCX H e s' h).elim
    | ok fl =>
      cases fl with
      | next => exact False.elim h
      | brk => exact False.elim h
      | cont => exact False.elim h
      | ret u =>
        obtain ⟨v, H', os, bare, un, hok', r', q⟩ := h
        have q' : v = .bl true := q
        subst q'
        obtain rfl : u = Value.bool true := r'
        refine ⟨rfl, OldK.of_keep fun b o e => ?_, os, bare⟩
        cases q : H b with
        | none => exact un.keep b o e q (by intro z; exact absurd (show b ∈ ([] : List Addr) from z) (by simp)) (by simp)
        | some u =>
          rcases hO b with z | ⟨ob, xs, z⟩
          · rw [q] at z; cases z
          · have z2 := un.frzs b ob _ z
            obtain ⟨e1, _⟩ := hok b _ z
            obtain ⟨e2, _⟩ := hok' b _ z2
            rw [e] at e1; cases e1
            exact e2
  cases hk : K.lookup a with
  | some o =>
    -- the script is one of the module's own objects
    have e := KX a o hk
    rw [ha] at e
    cases e
    refine core (fun _ => none) (fun _ => .inl rfl) (.inr ⟨_, vs.toArray, _, hk, rfl, rfl, rfl, by rw [List.size_toArray, lenV]; exact hl, by simpa using rv⟩) (fun b u z => by have z' : (none : Option HO) = some u := z; cases z') (fun b z => absurd rfl z) fun z => absurd rfl z
  | none =>
    refine core (fun b => if b = a then some (.frz { cls := .type "list", data := .seq vs.toArray } (.lst (ns.map V.int))) else none) (fun b => ?_) (.inl (.inr ⟨{ cls := .type "list", data := .seq vs.toArray }, if_pos rfl⟩)) (fun b u z => ?_) (fun b z => ?_) fun _ => hk
    · by_cases hb : b = a
      · exact .inr ⟨_, _, if_pos hb⟩
      · exact .inl (if_neg hb)
    · by_cases hb : b = a
      · have z' := (if_pos hb).symm.trans z
        cases z'
        subst hb
        exact ⟨ha, by rw [List.length_map]; exact hl, vs, _, rv, ha⟩
      · have z' := (if_neg hb).symm.trans z
        cases z'
    · by_cases hb : b = a
      · exact hb
      · exact absurd (if_neg hb) z
end L2

namespace L2
open PySem PySem.Spec PyProof.Rows

abbrev KOf {K : PySem.W.Frag} {h : Heap} (_ : K.In h) : PySem.W.Frag := K

/-- the goal that k_head leaves (case hc), from the law's promise. F gives the function object fd (K's own) once, then the promise over every base -/
theorem walk_of {l : PySem.W.OpenLaw} {n k : Nat} {q : Program} {loose : List Str} {XP : (Str → Option Value) → Heap → Prop} {YP : World → Heap → Prop} {d : DefRec} {K : Params → PySem.W.Frag} {CX : World → CXT} {sp : World → Sp} {x : Str}
    (hn : l.most = some n) (hn2 : n ≤ sizeLine) (hdf : d.params.defaults = []) (hr : Room k callerA)
    (hY : ∀ (w : World) (h : Heap), YP w h → (K w.params).In h)
    (F : ∀ (w : World) (mg : Str → Option Value) (fa : Addr) (h : Heap), (K w.params).In h → h.Ns mainGlobals mg → mg d.name = some (.ref fa) →
      ∃ fd : FuncData, (∀ (s : Shared) (u : Value), BindsTo s fd ⟨[u], []⟩ [(x, u)]) ∧
        ∀ base : Heap, (K w.params).In base → base.Ns mainGlobals mg → FnOk l.prog w (K w.params) mg base (CX w) k fa fd [x] (sp w))
    (hsp : ∀ (w : World) (H : Hp) (a : Addr) (ns : List Int), ns.length ≤ n → Only H → SqL (K w.params) H a (ns.map V.int) → sp w [.ref a] H (fun v _ => v = .bl true) fun _ _ _ => False)
    (hCX : ∀ (w : World) (H : Hp) (s : Shared) (e : Value) (s' : Shared), CX w [] H s (fun _ _ _ => False) e s' → False) :
    PySem.W.WalkO q loose XP YP l.row.toRowW d [] (fun f vs => PySem.call f vs) := by
  refine Att.attach_call hn hdf fun w s₀ s₁ mg mb fa o pm cd doc a vs ns G Y ho hd hcd hmg hobj hints hlen hg => ?_
  have KX := hY w _ Y
  obtain ⟨fd, hb, hF⟩ := F w mg fa _ KX G.T.g hmg
  exact law_call KX G.T.g G.T.b G.T.builtins G.T.nolimit hg hobj hints (Nat.le_trans hlen hn2) hr hF hb (fun H hO hS => hsp w H a ns hlen hO hS) fun H e s' => hCX w H s₁ e s'
/-- the same where the promise hangs on the written part alone: (sp := My.sp_law), no hole under a binder -/
theorem walk_ofK {l : PySem.W.OpenLaw} {n k : Nat} {q : Program} {loose : List Str} {XP : (Str → Option Value) → Heap → Prop} {YP : World → Heap → Prop} {d : DefRec} {K : Params → PySem.W.Frag} {CX : CXT} {sp : PySem.W.Frag → Sp} {x : Str}
    (hn : l.most = some n) (hn2 : n ≤ sizeLine) (hdf : d.params.defaults = []) (hr : Room k callerA)
    (hY : ∀ (w : World) (h : Heap), YP w h → (K w.params).In h)
    (F : ∀ (w : World) (mg : Str → Option Value) (fa : Addr) (h : Heap), (K w.params).In h → h.Ns mainGlobals mg → mg d.name = some (.ref fa) →
      ∃ fd : FuncData, (∀ (s : Shared) (u : Value), BindsTo s fd ⟨[u], []⟩ [(x, u)]) ∧
        ∀ base : Heap, (K w.params).In base → base.Ns mainGlobals mg → FnOk l.prog w (K w.params) mg base CX k fa fd [x] (sp (K w.params)))
    (hsp : ∀ (K : PySem.W.Frag) (H : Hp) (a : Addr) (ns : List Int), ns.length ≤ n → Only H → SqL K H a (ns.map V.int) → sp K [.ref a] H (fun v _ => v = .bl true) fun _ _ _ => False)
    (hCX : ∀ (H : Hp) (s : Shared) (e : Value) (s' : Shared), CX [] H s (fun _ _ _ => False) e s' → False) :
    PySem.W.WalkO q loose XP YP l.row.toRowW d [] (fun f vs => PySem.call f vs) :=
  walk_of (K := K) (CX := fun _ => CX) (sp := fun w => sp (K w.params)) hn hn2 hdf hr hY F (fun w H a ns h1 h2 h3 => hsp (K w.params) H a ns h1 h2 h3) fun _ H s e s' => hCX H s e s'
end L2

/- THE LAST THEOREM (shape; LID, My.* are yours):
   My.Adr: a structure of the addresses that your layer names (classes, functions); My.Txt K t: a structure (Prop) of the equations over K;
   My.txt_mk : {K} {implicit addresses ..} (e1 : nsIn K mainGlobals "law" = some (some (.ref f))) (e2 : K.lookup f = some ⟨oc, od, .func (fnOf "law" "law" params body scope dV kV doc pm an cdv ct), sl⟩) (e3 : codeIn K cdv "law" = true) .. : ∃ t, My.Txt K t

set_option maxRecDepth 100000 in
set_option maxHeartbeats 0 in
theorem PySem.Challenge.cw_LID_holds : PySem.Challenge.rw_LID.Holds := by
  w_on; o_law; k_head; (case hw => w_witness2)
  k_fill
  refine L2.walk_of (l := PySem.Challenge.rw_LID) (n := 63) (k := 40) (x := "script") (CX := fun w => ..) (sp := fun _ => My.sp_law) rfl (by decide) rfl ⟨rfl, by decide, by decide⟩ (fun w h Y => PySem.W.kIn_of Y) ?F ?S ?C
  case F =>
    intro w mg fa h KX G hmg
    have T : ∃ t, My.Txt (L2.KOf KX) t := by
      dsimp only [L2.KOf]                          -- K must stand as «<heap const> w.params» for k_is
      refine' My.txt_mk ?e1 ?e2 ?e3 ..
      (case e1 => PySem.W.k_is)                    -- in the order: a name -> its address -> its object -> its parts
      (case e2 => PySem.W.k_is)
      ..
    obtain ⟨t, T⟩ := T
    have e0 := hmg.symm.trans (PySem.W.mg_of KX G T.law)
    cases e0                                       -- fa is the law's own address
    exact ⟨_, fun s u => .of_eq rfl, fun base kb nb => My.law_fn T kb nb⟩     -- if «.of_eq rfl» comes too early: refine' ⟨_, ?b, fun base kb nb => My.law_fn T kb nb⟩; exact fun s u => .of_eq rfl
  case S => exact fun w H a ns hl hO hS => ..
  case C => exact ..
(the tactic k_is has no namespace: write k_is) -/

/-! SHORT WORDS over the layer: a def of the text, its body, what a loop and a test want. -/
namespace L2
open PySem PySem.Spec PyProof.Rows

/-! ### the text by places -/
/-- the j-th statement of a class's body -/
def inClass (s : Stmt) (j : Nat) : Stmt := match s with
  | .ClassDef _ _ _ body _ _ _ _ _ _ _ => body.getD j (.Pass ⟨0, 0, 0, 0⟩)
  | _ => .Pass ⟨0, 0, 0, 0⟩
def defArgs (s : Stmt) : Arguments := match s with
  | .FunctionDef _ a _ _ _ _ _ _ _ _ => a
  | _ => { posonlyargs := [], args := [], vararg := none, kwonlyargs := [], kw_defaults := [], kwarg := none, defaults := [] }
def defBody (s : Stmt) : List Stmt := match s with
  | .FunctionDef _ _ b _ _ _ _ _ _ _ => b
  | _ => []
def defScope (s : Stmt) : Scope := match s with
  | .FunctionDef _ _ _ _ _ _ sc _ _ _ => sc
  | _ => { kind := .function, names := [], isGenerator := false, isCoroutine := false }

/-! ### no exception leaves a def -/
abbrev CX0 : CXT := fun _ _ _ _ _ _ => False
abbrev E0 : XK := fun _ _ _ => False
theorem pass0 {X : Cx} : Passes CX0 X E0 := fun _ _ _ _ _ _ _ h => h.elim

/-! ### a def (or method) of the text as it stands behind the top -/
structure Fun (K : PySem.W.Frag) (x qual : Str) (st : Stmt) (f : Addr) (fd : FuncData) : Prop where
  ex : ∃ (oc : Value) (od : Option Addr) (kV doc pm : Value) (an : Option Addr) (cdv ct : Value) (osl : Array (Option Value)),
    fd = PySem.W.fnOf x qual (defArgs st) (defBody st) (defScope st) .none kV doc pm an cdv ct ∧ K.lookup f = some ⟨oc, od, .func fd, osl⟩ ∧ PySem.W.codeIn K cdv qual = true
  kp : PySem.W.keepIn K (.ref f) = true
section
variable {P : Program} {w : World} {K : PySem.W.Frag} {mg : Str → Option Value} {base : Heap}
/-- THE RULE for a def: its body as a term of rules, and the reading of that term -/
theorem Fun.ok {x qual : Str} {st : Stmt} {f : Addr} {fd : FuncData} {N ps : List Str} {k : Nat} {sp : Sp} (F : Fun K x qual st f fd) (S : FnScope N ps (defScope st)) (len : ∀ vs H Q E, sp vs H Q E → vs.length = ps.length)
    (hbody : ∀ (cdv : Value) (A : Around) (outer : List Env) (s : Shared) (H : Hp) (vs : List V) (Q : VK) (E : XK), Room k (A.deeper (envOfC qual (defScope st) s.heap.objs.size f cdv)) → sp vs H Q E →
      ∃ t, PSs (cxOf CX0 P w K mg base N qual (defScope st) f cdv A outer s H E).nox (defBody st) t ∧ t { nx := fun _ H' => Q .non H', rt := Q } (start N vs) H) : FnOk P w K mg base CX0 (k + 1) f fd ps sp := by
  obtain ⟨oc, od, kV, doc, pm, an, cdv, ct, osl, rfl, lk, hcd⟩ := F.ex
  refine fn_of lk hcd S len fun A outer s H vs Q E hr hsp => ?_
  obtain ⟨t, h, q⟩ := hbody cdv A outer s H vs Q E hr hsp
  exact ⟨t, h.nox, q⟩
/-- how its arguments bind (no defaults): h is «fun _ _ _ _ _ _ us hl => match us, hl with | [_, _], _ => rfl», one _ a parameter -/
theorem Fun.binds {x qual : Str} {st : Stmt} {f : Addr} {fd : FuncData} {ps : List Str} (F : Fun K x qual st f fd)
    (h : ∀ (kV doc pm : Value) (an : Option Addr) (cdv ct : Value) (us : List Value), us.length = ps.length → bindArgs (PySem.W.fnOf x qual (defArgs st) (defBody st) (defScope st) .none kV doc pm an cdv ct) ⟨us, []⟩ = pure (ps.zip us)) : Binds K fd ps [] := by
  obtain ⟨oc, od, kV, doc, pm, an, cdv, ct, osl, rfl, lk, hcd⟩ := F.ex
  exact .all (h kV doc pm an cdv ct)
theorem fun_mk {x qual : Str} {st : Stmt} {f : Addr} {oc : Value} {od an : Option Addr} {osl : Array (Option Value)} {kV doc pm cdv ct : Value} (l : K.lookup f = some ⟨oc, od, .func (PySem.W.fnOf x qual (defArgs st) (defBody st) (defScope st) .none kV doc pm an cdv ct), osl⟩)
    (c : PySem.W.codeIn K cdv qual = true) (k : PySem.W.keepIn K (.ref f) = true) : Fun K x qual st f (PySem.W.fnOf x qual (defArgs st) (defBody st) (defScope st) .none kV doc pm an cdv ct) := ⟨⟨oc, od, kV, doc, pm, an, cdv, ct, osl, rfl, l, c⟩, k⟩
end
theorem hu_of {A : Around} {k : Nat} (hr : Room k A) : A.units + 1 < cLine := Nat.lt_of_le_of_lt (Nat.add_le_add_left (by decide : 1 ≤ 64) _) hr.units
theorem small1000 {n : Nat} (h : n ≤ 1000) : n < sizeLine := Nat.lt_of_le_of_lt h (by decide)

/-! ### expressions in short: the name that stands in the i-th slot -/
section
variable {X : Cx}
theorem pv (i : Nat) {x : Str} {pos : Pos} (hN : X.N[i]? = some x := by rfl) (hv : Vis X.env.scope x := by first | exact Or.inl rfl | exact Or.inr (Or.inl rfl) | exact Or.inr (Or.inr rfl)) (hd : (x == ("__debug__" : Str)) = false := by decide)
    (hcd : (x == ("__classdict__" : Str)) = false := by decide) : PE X (.Name x pos) (tVar i) := pe_var hN hv hd hcd
/-- len of a dict -/
theorem call_lenD : CallR X (.builtin "len") (fun xs H Q => ∃ a kvs, xs = [V.ref a] ∧ H a = some (.dK kvs) ∧ Q (.int kvs.length) H) := by
  intro pins s σ H xs us Q I r h
  obtain ⟨a, kvs, rfl, ha, q⟩ := h
  obtain ⟨u, rfl, ru⟩ := vals1 r
  cases ru
  exact d_len I (.inl ha) fun t s' I' => ⟨.int kvs.length, H, I', ⟨t, rfl⟩, q⟩
end

/-! ### tests -/
theorem iteF {A B : Prop} (h : B) : if false = true then A else B := by
  rw [if_neg Bool.false_ne_true]
  exact h
theorem iteT {A B : Prop} (h : A) : if true = true then A else B := by
  rw [if_pos rfl]
  exact h
theorem ite2 {c A B : Prop} [Decidable c] (h1 : c → A) (h2 : ¬ c → B) : if c then A else B := by
  by_cases h : c
  · rw [if_pos h]
    exact h1 h
  · rw [if_neg h]
    exact h2 h
theorem iteNS {c A B : Prop} [Decidable c] (hc : c) (h : B) : if (!decide c) = true then A else B := by
  rw [decide_eq_true hc]
  exact iteF h

/-! ### heaps -/
/-- all that was tracked is as it was -/
def Same (H H' : Hp) : Prop := ∀ b o, H b = some o → H' b = some o
theorem Same.refl (H : Hp) : Same H H := fun _ _ h => h
theorem Same.trans {H H1 H2 : Hp} (a : Same H H1) (b : Same H1 H2) : Same H H2 := fun c o h => b c o (a c o h)
theorem Same.free {H H' : Hp} (e : Same H H') {l : Addr} (h : H' l = Option.none) : H l = Option.none := by
  cases q : H l with
  | none => rfl
  | some o =>
    rw [e l o q] at h
    cases h
theorem Same.seq {K : PySem.W.Frag} {H H' : Hp} {a : Addr} {xs : List V} (e : Same H H') (h : SqL K H a xs) : SqL K H' a xs := by
  rcases h with (h | ⟨o, h⟩) | h
  · exact .inl (.inl (e _ _ h))
  · exact .inl (.inr ⟨o, e _ _ h⟩)
  · exact .inr h

/-! ### a dict's pairs: keys that differ -/
section
variable {κ : Type} [DecidableEq κ]
theorem valV_not {kvs : List (κ × V)} {k : κ} (h : valV kvs k = none) : ¬ k ∈ kvs.map (·.1) := by
  intro m
  obtain ⟨p, hp, e⟩ := List.mem_map.mp m
  have q : (kvs.any fun kv => decide (kv.1 = k)) = true := List.any_eq_true.mpr ⟨p, hp, decide_eq_true e⟩
  rw [valV_any, h] at q
  exact absurd q (by simp)
theorem valV_in {kvs : List (κ × V)} {k : κ} {v : V} (h : valV kvs k = some v) : k ∈ kvs.map (·.1) := by
  have q : (kvs.any fun kv => decide (kv.1 = k)) = true := by
    rw [valV_any, h]
    all_goals rfl
  obtain ⟨p, hp, e⟩ := List.any_eq_true.mp q
  exact List.mem_map.mpr ⟨p, hp, of_decide_eq_true e⟩
theorem nd_snoc : ∀ {l : List κ} {k : κ}, l.Nodup → ¬ k ∈ l → (l ++ [k]).Nodup
  | [], k, _, _ => by simp
  | a :: r, k, h, hk => by
    obtain ⟨h1, h2⟩ := List.nodup_cons.mp h
    show (a :: (r ++ [k])).Nodup
    refine List.nodup_cons.mpr ⟨fun m => ?_, nd_snoc h2 fun m => hk (List.mem_cons.mpr (Or.inr m))⟩
    rcases List.mem_append.mp m with q | q
    · exact h1 q
    · exact hk (List.mem_cons.mpr (Or.inl (List.mem_singleton.mp q).symm))
theorem nd_putK {kvs : List (κ × V)} {k : κ} (v : V) (hn : (kvs.map (·.1)).Nodup) (h : valV kvs k = none) : ((putK kvs k v).map (·.1)).Nodup := by
  rw [putK_new v h, List.map_append]
  exact nd_snoc hn (valV_not h)
theorem dropK_pos {p : κ × V} {r : List (κ × V)} {k : κ} (e : p.1 = k) : dropK (p :: r) k = dropK r k := by
  unfold dropK
  rw [List.filter_cons, if_neg (by simp [e])]
theorem dropK_neg {p : κ × V} {r : List (κ × V)} {k : κ} (e : ¬ p.1 = k) : dropK (p :: r) k = p :: dropK r k := by
  unfold dropK
  rw [List.filter_cons, if_pos (by simp [e])]
theorem dropK_no : ∀ {kvs : List (κ × V)} {k : κ}, ¬ k ∈ kvs.map (·.1) → dropK kvs k = kvs
  | [], _, _ => rfl
  | p :: r, k, h => by
    have h' : ¬ k ∈ r.map (·.1) := fun m => by
      obtain ⟨q, hq, e⟩ := List.mem_map.mp m
      exact h (List.mem_map.mpr ⟨q, List.mem_cons.mpr (Or.inr hq), e⟩)
    rw [dropK_neg fun e => h (List.mem_map.mpr ⟨p, List.mem_cons.mpr (Or.inl rfl), e⟩), dropK_no h']
theorem dropK_mem {kvs : List (κ × V)} {k : κ} {p : κ × V} (h : p ∈ dropK kvs k) : p ∈ kvs := (List.mem_filter.mp h).1
theorem nd_dropK : ∀ {kvs : List (κ × V)} {k : κ}, (kvs.map (·.1)).Nodup → ((dropK kvs k).map (·.1)).Nodup
  | [], _, _ => List.nodup_nil
  | p :: r, k, h => by
    have h : (p.1 :: r.map (·.1)).Nodup := h
    obtain ⟨h1, h2⟩ := List.nodup_cons.mp h
    by_cases e : p.1 = k
    · rw [dropK_pos e]
      exact nd_dropK h2
    · rw [dropK_neg e]
      show (p.1 :: (dropK r k).map (·.1)).Nodup
      refine List.nodup_cons.mpr ⟨fun m => h1 ?_, nd_dropK h2⟩
      obtain ⟨q, hq, eq⟩ := List.mem_map.mp m
      exact List.mem_map.mpr ⟨q, dropK_mem hq, eq⟩
theorem dropK_len : ∀ {kvs : List (κ × V)} {k : κ}, (kvs.map (·.1)).Nodup → k ∈ kvs.map (·.1) → (dropK kvs k).length + 1 = kvs.length
  | [], _, _, m => by simp at m
  | p :: r, k, h, m => by
    have h : (p.1 :: r.map (·.1)).Nodup := h
    have m : k = p.1 ∨ k ∈ r.map (·.1) := List.mem_cons.mp m
    obtain ⟨h1, h2⟩ := List.nodup_cons.mp h
    by_cases e : p.1 = k
    · subst e
      rw [dropK_pos rfl, dropK_no h1]
      all_goals rfl
    · have m' : k ∈ r.map (·.1) := m.resolve_left fun z => e z.symm
      have q := dropK_len h2 m'
      rw [dropK_neg e, List.length_cons, List.length_cons]
      omega
end
end L2
/-! ### OWN EXTENSION of the layer: data read off the abstract heap; ==, !=, in of data; isinstance; list helpers -/
namespace L2
open PySem PySem.Spec PyProof.Rows
mutual
inductive RdD (K : PySem.W.Frag) (H : Hp) : V → PyData → Prop
  | non : RdD K H .non .none
  | bl (b : Bool) : RdD K H (.bl b) (.bool b)
  | int (i : Int) : RdD K H (.int i) (.int i)
  | str (x : Str) : RdD K H (.str x) (.str x)
  | lst {a : Addr} {xs : List V} {ds : List PyData} : SqL K H a xs → RdAll K H xs ds → RdD K H (.ref a) (.list ds)
  | tup {a : Addr} {xs : List V} {ds : List PyData} : SqT K H a xs → RdAll K H xs ds → RdD K H (.ref a) (.tuple ds)
inductive RdAll (K : PySem.W.Frag) (H : Hp) : List V → List PyData → Prop
  | nil : RdAll K H [] []
  | cons {x : V} {xs : List V} {d : PyData} {ds : List PyData} : RdD K H x d → RdAll K H xs ds → RdAll K H (x :: xs) (d :: ds)
end
section
variable {X : Cx} {pins : List (Addr × Obj)} {σ : St} {H : Hp} {s : Shared}
mutual
theorem RdD.reads (I : Inv X pins σ H s) : ∀ {x : V} {d : PyData} {u : Value}, RdD X.K H x d → RelV x u → ∃ as, Reads s.heap u d as
  | _, _, _, .non, r => by cases r; exact ⟨_, Reads.none⟩
  | _, _, _, .bl b, r => by cases r; exact ⟨_, Reads.bool b⟩
  | _, _, _, .int i, r => by obtain ⟨t, rfl⟩ := r; exact ⟨_, Reads.int i t⟩
  | _, _, _, .str x, r => by obtain ⟨t, rfl⟩ := r; exact ⟨_, Reads.str x t⟩
  | _, _, _, .lst h hs, r => by
    cases r
    obtain ⟨its, rv, pl, _⟩ := I.list h
    obtain ⟨as, q⟩ := RdAll.reads I hs rv
    obtain ⟨o, ho, hc, n, hd⟩ := pl.isList
    exact ⟨_, reads_list_at ho hc hd (by simpa using q)⟩
  | _, _, _, .tup h hs, r => by
    cases r
    obtain ⟨its, rv, pl, _⟩ := I.tuple h
    obtain ⟨as, q⟩ := RdAll.reads I hs rv
    obtain ⟨o, ho, hc, n, hd⟩ := pl
    exact ⟨_, reads_tuple_at ho hc hd (by simpa using q)⟩
theorem RdAll.reads (I : Inv X pins σ H s) : ∀ {xs : List V} {ds : List PyData} {us : List Value}, RdAll X.K H xs ds → Vals xs us → ∃ as, ReadsAll s.heap us ds as
  | _, _, _, .nil, r => by cases r; exact ⟨_, ReadsAll.nil⟩
  | _, _, _, .cons h hs, r => by
    cases r with
    | cons r1 r2 =>
      obtain ⟨as, q⟩ := RdD.reads I h r1
      obtain ⟨bs, p⟩ := RdAll.reads I hs r2
      exact ⟨_, ReadsAll.cons q p⟩
end
end
section
variable {X : Cx}
theorem op_eqD (hu : X.A.units + 64 < cLine) : OpR X (compareOp .Eq) (fun x y H Q => ∃ da db, RdD X.K H x da ∧ RdD X.K H y db ∧ SeqAt.shaped da = true ∧ SeqAt.shaped db = true ∧ Q (.bl (PyData.eqv da db)) H) := by
  intro pins s σ H x y v u Q I rx ry h
  obtain ⟨da, db, ha, hb, sa, sb, q⟩ := h
  obtain ⟨as, ra⟩ := ha.reads I rx
  obtain ⟨bs, rb⟩ := hb.reads I ry
  exact eq_dataH ra rb sa sb hu ⟨.bl _, H, I, rfl, q⟩
theorem op_neD (hu : X.A.units + 64 < cLine) : OpR X (compareOp .NotEq) (fun x y H Q => ∃ da db, RdD X.K H x da ∧ RdD X.K H y db ∧ SeqAt.shaped da = true ∧ SeqAt.shaped db = true ∧ Q (.bl (!PyData.eqv da db)) H) := by
  intro pins s σ H x y v u Q I rx ry h
  obtain ⟨da, db, ha, hb, sa, sb, q⟩ := h
  obtain ⟨as, ra⟩ := ha.reads I rx
  obtain ⟨bs, rb⟩ := hb.reads I ry
  exact ne_dataH ra rb sa sb hu ⟨.bl _, H, I, rfl, q⟩
theorem op_notInD (hu : X.A.units + 64 < cLine) : OpR X (compareOp .NotIn) (fun x y H Q => ∃ d ds, RdD X.K H x d ∧ RdD X.K H y (.list ds) ∧ SeqAt.shaped d = true ∧ PyData.canLayAll0 ds = true ∧ d.depth ≤ 8 ∧ Q (.bl (!ds.any fun z => PyData.eqv z d)) H) := by
  intro pins s σ H x y v u Q I rx ry h
  obtain ⟨d, ds, ha, hb, sa, sb, hd, q⟩ := h
  obtain ⟨as, ra⟩ := ha.reads I rx
  obtain ⟨bs, rb⟩ := hb.reads I ry
  refine SeqAt.notIn_list_reads rb ra sb (SeqAt.canLay_of_shaped sa) ?_ ⟨.bl _, H, I, rfl, q⟩
  have h1 : min (PyData.depthAll ds) d.depth ≤ 8 := Nat.le_trans (Nat.min_le_right _ _) hd
  omega
theorem op_inD (hu : X.A.units + 64 < cLine) : OpR X (compareOp .In) (fun x y H Q => ∃ d ds, RdD X.K H x d ∧ RdD X.K H y (.list ds) ∧ SeqAt.shaped d = true ∧ PyData.canLayAll0 ds = true ∧ d.depth ≤ 8 ∧ Q (.bl (ds.any fun z => PyData.eqv z d)) H) := by
  intro pins s σ H x y v u Q I rx ry h
  obtain ⟨d, ds, ha, hb, sa, sb, hd, q⟩ := h
  obtain ⟨as, ra⟩ := ha.reads I rx
  obtain ⟨bs, rb⟩ := hb.reads I ry
  refine SeqAt.in_list_reads rb ra sb (SeqAt.canLay_of_shaped sa) ?_ ⟨.bl _, H, I, rfl, q⟩
  have h1 : min (PyData.depthAll ds) d.depth ≤ 8 := Nat.le_trans (Nat.min_le_right _ _) hd
  omega
/-- isinstance(x, T), T a type -/
theorem call_isT : CallR X (.builtin "isinstance") (fun xs H Q => ∃ x t n b, xs = [x, .ty n] ∧ TyOf X.K H x t ∧ PySem.W.kitOne X.K t (.type n) = some b ∧ Q (.bl b) H) := by
  intro pins s σ H xs us Q I r h
  obtain ⟨x, t, n, b, rfl, ty, e, q⟩ := h
  obtain ⟨u, u', rfl, rx, ry⟩ := vals2 r
  cases ry
  exact isinst_ok I rx ty e fun tk => ⟨.bl b, H, I.tok _, rfl, q⟩
end
/-! ### pairs of ints -/
section
theorem pairedTake {α β : Type} {F : α → β → Prop} : ∀ {l₁ : List α} {l₂ : List β} (n : Nat), Paired F l₁ l₂ → Paired F (l₁.take n) (l₂.take n)
  | _, _, 0, _ => .nil
  | _, _, _ + 1, .nil => .nil
  | _, _, n + 1, .cons r t => .cons r (pairedTake n t)
theorem pairedDrop {α β : Type} {F : α → β → Prop} : ∀ {l₁ : List α} {l₂ : List β} (n : Nat), Paired F l₁ l₂ → Paired F (l₁.drop n) (l₂.drop n)
  | _, _, 0, r => r
  | _, _, _ + 1, .nil => .nil
  | _, _, n + 1, .cons _ t => pairedDrop n t
theorem pairedApp {α β : Type} {F : α → β → Prop} : ∀ {l₁ k₁ : List α} {l₂ k₂ : List β}, Paired F l₁ l₂ → Paired F k₁ k₂ → Paired F (l₁ ++ k₁) (l₂ ++ k₂)
  | _, _, _, _, .nil, s => s
  | _, _, _, _, .cons r t, s => .cons r (pairedApp t s)
theorem pairedRev {α β : Type} {F : α → β → Prop} : ∀ {l₁ : List α} {l₂ : List β}, Paired F l₁ l₂ → Paired F l₁.reverse l₂.reverse
  | _, _, .nil => .nil
  | _, _, .cons r t => by rw [List.reverse_cons, List.reverse_cons]; exact pairedApp (pairedRev t) (.cons r .nil)
theorem pairedGet {α β : Type} {F : α → β → Prop} : ∀ {l₁ : List α} {l₂ : List β} {i : Nat} {b : β}, Paired F l₁ l₂ → l₂[i]? = some b → ∃ a, l₁[i]? = some a ∧ F a b
  | _, _, _, _, .nil, e => by simp at e
  | _, _, 0, _, .cons r _, e => by simp at e; subst e; exact ⟨_, rfl, r⟩
  | _, _, i + 1, b, .cons _ t, e => by
    obtain ⟨a, h1, h2⟩ := pairedGet (i := i) (b := b) t (by simpa using e)
    exact ⟨a, by simpa using h1, h2⟩
theorem pairedGetL {α β : Type} {F : α → β → Prop} : ∀ {l₁ : List α} {l₂ : List β} {i : Nat} {a : α}, Paired F l₁ l₂ → l₁[i]? = some a → ∃ b, l₂[i]? = some b ∧ F a b
  | _, _, _, _, .nil, e => by simp at e
  | _, _, 0, _, .cons r _, e => by simp at e; subst e; exact ⟨_, rfl, r⟩
  | _, _, i + 1, a, .cons _ t, e => by
    obtain ⟨b, h1, h2⟩ := pairedGetL (i := i) (a := a) t (by simpa using e)
    exact ⟨b, by simpa using h1, h2⟩
/-- a pair as a tuple of the heap -/
def tp (p : Int × Int) : HO := .tup [.int p.1, .int p.2]
def Prs (H : Hp) (rs : List Addr) (ps : List (Int × Int)) : Prop := Paired (fun r p => H r = some (tp p)) rs ps
/-- at l a list of pairs -/
def PL (H : Hp) (l : Addr) (ps : List (Int × Int)) : Prop := ∃ rs : List Addr, H l = some (.lst (rs.map V.ref)) ∧ Prs H rs ps
variable {K : PySem.W.Frag} {H H' : Hp} {l r p : Addr} {rs : List Addr} {ps qs : List (Int × Int)}
theorem Prs.same (e : Same H H') (h : Prs H rs ps) : Prs H' rs ps := Paired.mapP h fun _ _ q => e _ _ q
theorem PL.same (e : Same H H') (h : PL H l ps) : PL H' l ps := let ⟨rs, a, b⟩ := h; ⟨rs, e _ _ a, b.same e⟩
theorem Prs.length (h : Prs H rs ps) : rs.length = ps.length := Paired.length h
theorem same_new {o : HO} (h : H p = none) : Same H (upd H p o) := fun b u e => by rw [upd_ne (ne_of_none e h)]; exact e
/-- a tracked object that was not there at first is changed -/
theorem same_upd {H₀ : Hp} {o : HO} (e : Same H₀ H) (h : H₀ p = none) : Same H₀ (upd H p o) := fun b u q => by rw [upd_ne (ne_of_none q h)]; exact e _ _ q
theorem Prs.upd {o : HO} (h : Prs H rs ps) (hp : ∀ q, H p ≠ some (tp q)) : Prs (upd H p o) rs ps := by
  refine Paired.mapP h fun r q e => ?_
  have hne : r ≠ p := fun z => hp q (z ▸ e)
  rw [upd_ne hne]; exact e
theorem lst_ne_tp {xs : List V} (h : H p = some (.lst xs)) : ∀ q, H p ≠ some (tp q) := fun q e => by rw [h] at e; cases e
theorem dK_ne_tp {xs : List (Key × V)} (h : H p = some (.dK xs)) : ∀ q, H p ≠ some (tp q) := fun q e => by rw [h] at e; cases e
theorem dT_ne_tp {xs : List (List Key × V)} (h : H p = some (.dT xs)) : ∀ q, H p ≠ some (tp q) := fun q e => by rw [h] at e; cases e
theorem none_ne_tp (h : H p = none) : ∀ q, H p ≠ some (tp q) := fun q e => by rw [h] at e; cases e
theorem PL.at (h : PL H l ps) {z : Int} (h0 : 0 ≤ z) (h1 : z < ps.length) : ∃ (rs : List Addr) (r : Addr) (q : Int × Int), H l = some (.lst (rs.map V.ref)) ∧ atI (rs.map V.ref) z = some (.ref r) ∧ H r = some (tp q) ∧ q ∈ ps := by
  obtain ⟨rs, a, b⟩ := h
  have hz : z.toNat < ps.length := by omega
  have e : ps[z.toNat]? = some ps[z.toNat] := by simp [hz]
  obtain ⟨r, e1, e2⟩ := pairedGet b e
  refine ⟨rs, r, _, a, ?_, e2, List.getElem_mem hz⟩
  have e3 : (rs.map V.ref)[z.toNat]? = some (V.ref r) := by rw [List.getElem?_map, e1]; rfl
  have e4 : ((z.toNat : Nat) : Int) = z := by omega
  have := atI_nat e3
  rwa [e4] at this
def dp (p : Int × Int) : PyData := .tuple [.int p.1, .int p.2]
theorem dp_shaped (p : Int × Int) : SeqAt.shaped (dp p) = true := by
  simp [SeqAt.shaped, dp, PyData.canLay0, PyData.canLayAll0, PyData.depth, PyData.depthAll]
theorem dp_depth (p : Int × Int) : (dp p).depth ≤ 8 := by
  simp [dp, PyData.depth, PyData.depthAll]
theorem dps_lay : ∀ ps : List (Int × Int), PyData.canLayAll0 (ps.map dp) = true
  | [] => rfl
  | p :: r => by simp [PyData.canLayAll0, dps_lay r, dp, PyData.canLay0]
theorem dps_depth : ∀ ps : List (Int × Int), PyData.depthAll (ps.map dp) ≤ 8
  | [] => by simp [PyData.depthAll]
  | p :: r => by
    have := dps_depth r
    have := dp_depth p
    simp only [List.map_cons, PyData.depthAll]
    omega
theorem dps_shaped (ps : List (Int × Int)) : SeqAt.shaped (.list (ps.map dp)) = true := by
  have h := dps_depth ps
  have h2 : (PyData.list (ps.map dp)).depth ≤ 64 := by simp only [PyData.depth]; omega
  have h3 : (PyData.list (ps.map dp)).canLay0 = true := by simp only [PyData.canLay0, dps_lay]
  unfold SeqAt.shaped
  rw [h3, decide_eq_true h2]; rfl
theorem dp_eqv (p q : Int × Int) : PyData.eqv (dp p) (dp q) = decide (p = q) := by
  obtain ⟨a, b⟩ := p
  obtain ⟨c, d⟩ := q
  simp only [dp, PyData.eqv, PyData.eqvAll, Bool.and_true, Prod.mk.injEq]
  by_cases h1 : a = c <;> by_cases h2 : b = d <;> simp [h1, h2]
theorem dps_any (p : Int × Int) : ∀ ps : List (Int × Int), ((ps.map dp).any fun z => PyData.eqv z (dp p)) = decide (p ∈ ps)
  | [] => by simp
  | q :: r => by
    rw [List.map_cons, List.any_cons, dps_any p r, dp_eqv]
    by_cases h1 : q = p
    · subst h1; simp
    · have h1' : ¬ p = q := fun e => h1 e.symm
      by_cases h2 : p ∈ r <;> simp [h1, h1', h2]
theorem dps_eqv : ∀ ps qs : List (Int × Int), PyData.eqv (.list (ps.map dp)) (.list (qs.map dp)) = decide (ps = qs)
  | [], [] => by simp [PyData.eqv, PyData.eqvAll]
  | [], _ :: _ => by simp [PyData.eqv, PyData.eqvAll]
  | _ :: _, [] => by simp [PyData.eqv, PyData.eqvAll]
  | p :: r, q :: t => by
    have ih := dps_eqv r t
    simp only [PyData.eqv] at ih
    simp only [List.map_cons, PyData.eqv, PyData.eqvAll, ih, dp_eqv]
    by_cases h1 : p = q <;> by_cases h2 : r = t <;> simp [h1, h2]
theorem tp_rd {q : Int × Int} (h : H r = some (tp q)) : RdD K H (.ref r) (dp q) := .tup (SqT.of h) (.cons (.int _) (.cons (.int _) .nil))
theorem Prs.rd : ∀ {rs : List Addr} {ps : List (Int × Int)}, Prs H rs ps → RdAll K H (rs.map V.ref) (ps.map dp)
  | _, _, .nil => .nil
  | _, _, .cons r t => .cons (tp_rd r) (Prs.rd t)
theorem PL.rd (h : PL H l ps) : RdD K H (.ref l) (.list (ps.map dp)) := let ⟨_, a, b⟩ := h; .lst (SqL.of a) b.rd
theorem cutV_map (rs : List Addr) (lo hi : Option Int) : ∃ a b, cutV (rs.map V.ref) lo hi = ((rs.drop a).take b).map V.ref ∧ ((rs.drop a).take b).length ≤ rs.length := by
  refine ⟨HT.sIx (rs.map V.ref).length 0 lo, HT.sIx (rs.map V.ref).length (rs.map V.ref).length hi - HT.sIx (rs.map V.ref).length 0 lo, ?_, ?_⟩
  · unfold cutV
    rw [← List.map_drop, ← List.map_take]
  · rw [List.length_take, List.length_drop]; omega
end
end L2
/-! ### OWN EXTENSION: a list comprehension with one for over a plain name and at most one test -/
namespace L2
open PySem PySem.Spec PyProof.Rows
/-- the block of a comprehension: its own locals, the free names' cells -/
def cxComp (X : Cx) (scope : Scope) (cl : List (Str × Addr)) (N : List Str) (fp : List Addr) (s : Shared) (H : Hp) : Cx :=
  { X with N := N, s₀ := s, H₀ := H, env := compEnvC scope cl s.heap.objs.size X.env, outer := X.stack, stack := X.stack, ex := fp, fn := fun _ => false, pn := [], xe := fun _ _ => False }
/-- what of the text a comprehension must have; fr: its free names with their slots in the def -/
structure CompOk (X : Cx) (scope : Scope) (cl : List (Str × Addr)) (x : Str) (fr : List (Str × Nat)) : Prop where
  clos : closureFor scope X.env = pure cl
  kind : scope.kind = .function
  nocell : ∀ y ∈ scope.names, y.2 ≠ .cell
  names : ∀ y ∈ scope.names, y.2 = .local → scope.names.lookup y.1 = some .local
  hx : scope.names.lookup x = some .local
  sub : ∀ y c, cl.lookup y = some c → X.env.cells.lookup y = some c
  has : ∀ y, ((relabel scope X.env).names.lookup y = some .cell ∨ (relabel scope X.env).names.lookup y = some .free) → ∃ c, cl.lookup y = some c
  fre : ∀ p ∈ fr, X.N[p.2]? = some p.1 ∧ (X.env.scope.names.lookup p.1 = some .cell ∨ X.env.scope.names.lookup p.1 = some .free) ∧ ((relabel scope X.env).names.lookup p.1 = some .cell ∨ (relabel scope X.env).names.lookup p.1 = some .free)
  nd : (x :: fr.map (·.1)).Nodup
/-- the block's slots -/
def slotsC (fr : List (Str × Nat)) (σ : St) : St := fr.map fun p => (σ[p.2]?).join
section
variable {X : Cx} {pins : List (Addr × Obj)} {σ : St} {H : Hp} {s : Shared} {scope : Scope} {cl : List (Str × Addr)} {x : Str} {fr : List (Str × Nat)} {fp : List Addr}
theorem inv_comp (C : CompOk X scope cl x fr) (I : Inv X pins σ H s) (hf : ∀ b ∈ fp, FpOk X pins H b ∧ b < s.heap.objs.size) {h' : Heap} {t : Nat} {o : Obj} {m : Str → Option Value} (hn : h'.Ns s.heap.objs.size m)
    (hs : Heap.SameBut s.heap.objs.size (s.heap.push o) h') : Inv (cxComp X scope cl (x :: fr.map (·.1)) fp s H) [] (none :: slotsC fr σ) H { s with heap := h', toks := t } := by
  have old : ∀ b u, s.heap.get? b = some u → h'.get? b = some u := fun b u e => hs.extBut b u (Nat.ne_of_lt (Heap.lt_size e)) (Heap.get?_push_of_some _ e)
  have celllt : ∀ y c, X.env.cells.lookup y = some c → c < s.heap.objs.size := fun y c e => by
    obtain ⟨v, ob, ho, _⟩ := I.cell y c e
    exact Heap.lt_size ho
  refine ⟨⟨I.ok.mod, C.kind, I.ok.glob, I.ok.blt, Nat.le_refl _, fun a b c ea eb => I.ok.inj a b c (C.sub a c ea) (C.sub b c eb), fun y hy => C.has y hy, (fun y c hy => nomatch hy), I.ok.hd, I.ok.frames, .inl rfl, fun b hb => ⟨Nat.ne_of_lt (hf b hb).2, fun y c e => (hf b hb).1.2.2.2.2.1 y c (C.sub y c e)⟩, I.bs, Nat.le_trans I.ok.bsz I.sz, fun b ob e hb => ?_, fun b hb hz => ?_, I.stack, I.stkFree⟩,
    rfl, I.bare, ⟨fun b u e _ _ _ => old b u e, fun b u e _ _ _ => ⟨u.slots, old b u e⟩, fun b u e n _ => n, fun b u e _ => ⟨u, old b u e⟩, fun _ _ e => e, fun _ _ _ e => e, fun b ps e => ⟨#[], by rw [Array.append_empty]; exact e⟩⟩, ⟨m, hn, fun i y v e1 e2 e3 => ?_⟩, fun y c e => ?_, I.hok.fresh (Nat.le_refl _), fun y c e => I.freeC y c (C.sub y c e), (fun p hp => by cases hp), I.hok.kept old, ?_⟩
  · -- noex
    rcases (hf b hb).1.2.2.2.1 with z | z
    · exact I.ok.noex b ob e z
    · exact absurd (Nat.lt_of_lt_of_le (Heap.lt_size (I.ok.bs b ob e).1) z) (Nat.lt_irrefl _)
  · -- exfs
    rcases List.mem_cons.mp (I.stkSub b hz) with e | e
    · exact (hf b hb).1.2.1 e
    · exact (hf b hb).1.2.2.1 e
  · -- a free name's value
    cases i with
    | zero => cases e2
    | succ i =>
      have e1' : (fr.map (·.1))[i]? = some y := e1
      have e2' : (slotsC fr σ)[i]? = some (some v) := e2
      rw [List.getElem?_map] at e1'
      unfold slotsC at e2'
      rw [List.getElem?_map] at e2'
      cases ep : fr[i]? with
      | none => rw [ep] at e1'; cases e1'
      | some p =>
        rw [ep] at e1' e2'
        have ey : p.1 = y := Option.some.inj e1'
        have ev : (σ[p.2]?).join = some v := Option.some.inj e2'
        obtain ⟨f1, f2, f3⟩ := C.fre p (List.mem_of_getElem? ep)
        rw [ey] at f1 f2 f3
        have ev' : σ[p.2]? = some (some v) := by
          cases q : σ[p.2]? with
          | none => rw [q] at ev; cases ev
          | some z => rw [q] at ev; cases z with
            | none => cases ev
            | some z => exact congrArg some ev
        obtain ⟨m', _, hl⟩ := I.loc
        obtain ⟨u, r, l⟩ := hl p.2 y v f1 ev' (.inr f2)
        refine ⟨u, r, .inr ⟨f3, ?_⟩⟩
        rcases l with ⟨k, _⟩ | ⟨_, c, ec, hc⟩
        · exfalso
          have k' : X.env.scope.names.lookup y = some .local := k
          rcases f2 with z | z <;> rw [z] at k' <;> cases k'
        · obtain ⟨c', ec'⟩ := C.has y f3
          have := C.sub y c' ec'
          rw [ec] at this
          cases this
          obtain ⟨ob, ho, hd⟩ := hc
          exact ⟨c, ec', ob, old _ _ ho, hd⟩
  · obtain ⟨v, ob, ho, hd⟩ := I.cell y c (C.sub y c e)
    exact ⟨v, ob, old _ _ ho, hd⟩
  · show (none :: slotsC fr σ).length = (x :: fr.map (·.1)).length
    simp [slotsC]
/-- behind the block -/
theorem comp_back {H' : Hp} {s' : Shared} {σc : St} {N : List Str} {pl : List (Addr × Obj)} (I : Inv X pins σ H s) (hf : ∀ b ∈ fp, FpOk X pins H b) (Ic : Inv (cxComp X scope cl N fp s H) pl σc H' s') : Inv X pins σ H' s' :=
  I.call' (ch := fp) Ic.os Ic.base Ic.hok Ic.bare fun b hb => ⟨(hf b hb).2.2.2.1, (hf b hb).2.1, (hf b hb).2.2.2.2.1, (hf b hb).2.2.2.2.2⟩
end
section
variable {prog : Program} {w : World} {A : Around} {R : Result → Shared → Prop} {s : Shared}
theorem compLoop_go {elt target iter : Expr} {ifs : List Expr} {scope : Scope} {pos : Pos} {it acc : Value} {env : Env} (I : Nat → Shared → Prop)
    (turn : ∀ n s, I n s → wpAny (model prog w) A (pyNext it) (fun r s₁ => match r with
      | none => R (.ok .next) s₁
      | some v => wpAny (model prog w) A (letOwnedTupleGo target it v) (fun _ s₁' => wpAny (model prog w) A (assign target env v) (fun _ s₂ =>
          wpAny (model prog w) A (forIn ifs true fun c r => if r = true then do let ok ← isTrue c env (eval c env); pure (ForInStep.yield ok) else pure (ForInStep.yield r)) (fun ok s₃ =>
            if ok = true then wpAny (model prog w) A (eval elt env) (fun x s₄ =>
              wpAny (model prog w) A (call (.builtin "list.append") [acc, x]) (fun _ s₅ => ∃ m, m < n ∧ I m s₅) (fun _ _ => False) s₄) (fun _ _ => False) s₃
            else ∃ m, m < n ∧ I m s₃) (fun _ _ => False) s₂) (fun _ _ => False) s₁') (fun _ _ => False) s₁) (fun _ _ => False) s)
    (n : Nat) (h : I n s) : codeAny (model prog w) A (.compLoop (.ListComp elt [⟨target, iter, ifs, 0⟩] scope pos) 0 it acc env) R s := by
  refine codeAny_loop rfl I (fun n s hI => ?_) n h
  show wpAny _ A ((compTurn (.ListComp elt [⟨target, iter, ifs, 0⟩] scope pos) 0 it acc env).onRaise (fun x => do noteFrame x env; theTreesLotGoes x)) _ _ s
  refine wpAny_noted ?_
  rw [compTurn_list]
  refine wpAny_bind (wpAny_standAt (wpAny_bind (wpAny_mono (turn n s hI) (fun r s₁ h₁ => ?_) fun _ _ h' => h'.elim)))
  cases r with
  | none => exact wpAny_pure h₁
  | some v =>
    refine wpAny_bind (wpAny_mono h₁ (fun _ s₁' h₁' => ?_) fun _ _ h' => h'.elim)
    refine wpAny_bind (wpAny_mono h₁' (fun _ s₂ h₂ => wpAny_bind (wpAny_mono h₂ (fun ok s₃ h₃ => ?_) fun _ _ h' => h'.elim)) fun _ _ h' => h'.elim)
    cases ok with
    | false => exact wpAny_pure ⟨rfl, h₃⟩
    | true =>
      exact wpAny_bind (wpAny_bind (wpAny_mono h₃ (fun x s₄ h₄ => wpAny_bind (wpAny_mono h₄ (fun _ s₅ h₅ => wpAny_pure (wpAny_pure ⟨rfl, h₅⟩)) fun _ _ h' => h'.elim)) fun _ _ h' => h'.elim))
end
/-- the tests of a comprehension -/
def PTs (X : Cx) (ifs : List Expr) (t : TT) : Prop :=
  ∀ (pins : List (Addr × Obj)) (s : Shared) (σ : St) (H : Hp) (Q : Bool → Hp → Prop), Inv X pins σ H s → t σ H Q →
    wpAny (model X.prog X.w) X.A (forIn ifs true fun c r => if r = true then do let ok ← isTrue c X.env (eval c X.env); pure (ForInStep.yield ok) else pure (ForInStep.yield r)) (TP X pins σ Q) X.xe s
def tNoTest : TT := fun _ H Q => Q true H
theorem pts_nil {X : Cx} : PTs X [] tNoTest := fun _ _ _ H _ I h => wpAny_tests_nil ⟨H, I, h⟩
theorem pts_one {X : Cx} {c : Expr} {t : TT} (h : PT X c t) : PTs X [c] t := fun pins s σ H Q I q => wpAny_tests_one (h pins s σ H Q I q)
/-- the reading: W by the turn, a measure, the list so far, the heap -/
def tComp (fr : List (Str × Nat)) (wi : TI) (tt : TT) (te : TE) : TE := fun σ H Q => wi σ H fun J H1 => ∀ D, H1 D = none → ∃ W : Nat → Nat → List V → Hp → Prop, (∃ m, W 0 m [] (upd H1 D (.lst []))) ∧ ∀ i m acc H2, W i m acc H2 →
  H2 D = some (.lst acc) ∧ ((J.stop i H2 ∧ Q (.ref D) H2) ∨ (acc.length < sizeLine ∧ J.go i H2 ∧ ∀ x H3, J.yld i H2 x H3 → tt (some x :: slotsC fr σ) H3 fun b H4 =>
    if b = true then te (some x :: slotsC fr σ) H4 fun y H5 => H5 D = some (.lst acc) ∧ ∃ m', m' < m ∧ W (i + 1) m' (acc ++ [y]) (upd H5 D (.lst (acc ++ [y]))) else ∃ m', m' < m ∧ W (i + 1) m' acc H4))
section
variable {X : Cx} {scope : Scope} {cl : List (Str × Addr)} {x : Str} {fr : List (Str × Nat)} {elt iter : Expr} {ifs : List Expr} {px pos : Pos} {wi : TI} {tt : TT} {te : TE}
theorem comp_walk {pins : List (Addr × Obj)} {σ : St} {H : Hp} {s : Shared} {Q : VK} {use : Option (Value → Sem Unit)} {Qv : Value → Shared → Prop} {E : Value → Shared → Prop} (C : CompOk X scope cl x fr) (hc : X.calm = true) (hi : PI X (.Name x px) iter wi)
    (ht : ∀ fp s H, PTs (cxComp X scope cl (x :: fr.map (·.1)) fp s H) ifs tt) (he : ∀ fp s H, PE (cxComp X scope cl (x :: fr.map (·.1)) fp s H) elt te)
    (I : Inv X pins σ H s) (h : tComp fr wi tt te σ H Q) (hs : ∀ x, foldedSetIterable iter X.env x = pure x) (hE : ∀ e s', X.xe e s' → E e s')
    (hQ : ∀ (s₄ : Shared) (H₄ : Hp) (D Cn : Addr) (m : Str → Option Value), Inv X pins σ H₄ s₄ → s₄.heap.Ns Cn m → H₄ Cn = none → Cn ≠ X.env.locals → Cn ∉ X.fs → X.s₀.heap.objs.size ≤ Cn → (∀ y c, X.env.cells.lookup y = some c → c ≠ Cn) → (∀ p ∈ X.pn ++ pins, p.1 ≠ Cn) → Q (.ref D) H₄ →
      compPost (model X.prog X.w) X.A E use Qv (.ref D) Cn (.ok .next) s₄) :
    wpAny (model X.prog X.w) X.A (comprehension (.ListComp elt [⟨.Name x px, iter, ifs, 0⟩] scope pos) scope X.env (firstIterPos [⟨.Name x px, iter, ifs, 0⟩] pos) (newList []) false (eval iter X.env) use) Qv E s := by
  refine wpAny_comprehension_free (use := use) rfl hs C.clos C.kind C.names (wpAny_mono (hi pins s σ H _ I h) (fun v s1 h1 => wpAny_mono h1 (fun itv s2 h2 => ?_) hE) hE)
  obtain ⟨it, fp, tn, J, H2, e, I2, T, st2, f2, q⟩ := h2
  subst e
  refine wpAny_newObj_type (wpAny_newFunctionEnv C.nocell (by intro y hy; simp at hy) (fun h₁ hns₁ hsb₁ => ?_) C.kind)
  dsimp only at hns₁ hsb₁ ⊢
  have I3 : Inv X pins σ (upd H2 s2.heap.objs.size (.lst [])) { s2 with heap := s2.heap.push { cls := .type "list", dict := none, data := .seq ([] : List Value).toArray }, toks := s2.toks } := I2.lnew (ys := []) (its := []) .nil (Nat.zero_le _)
  obtain ⟨W, ⟨m0, w0⟩, turn⟩ := q s2.heap.objs.size I2.fresh
  generalize hD : s2.heap.objs.size = D at *
  generalize hs3 : ({ s2 with heap := s2.heap.push { cls := .type "list", dict := none, data := .seq ([] : List Value).toArray }, toks := s2.toks } : Shared) = s3 at *
  have hheap : s2.heap.push { cls := .type "list", dict := none, data := .seq ([] : List Value).toArray } = s3.heap := by rw [← hs3]
  have hsz : s3.heap.objs.size = s2.heap.objs.size + 1 := by rw [← hheap, Heap.size_push]
  rw [hheap] at hns₁ hsb₁ ⊢
  have fD : ∀ b ∈ fp, b ≠ D := fun b hb z => by
    obtain ⟨o, ho, _⟩ := T.obj _ _ st2 b hb
    exact Nat.lt_irrefl _ (hD ▸ z ▸ Heap.lt_size ho)
  have flt : ∀ b ∈ fp, b < s3.heap.objs.size := fun b hb => by
    obtain ⟨o, ho, _⟩ := T.obj _ _ st2 b hb
    rw [hsz]; exact Nat.lt_succ_of_lt (Heap.lt_size ho)
  have f3 : ∀ b ∈ fp, FpOk X pins (upd H2 D (.lst [])) b := fun b hb => ⟨by rw [upd_ne (fD b hb)]; exact (f2 b hb).1, (f2 b hb).2⟩
  have I4 := inv_comp C I3 (fp := fp) (fun b hb => ⟨f3 b hb, flt b hb⟩) (t := s2.toks + ([] : List (Str × Value)).length) hns₁ hsb₁
  have old : ∀ b o, s2.heap.get? b = some o → h₁.get? b = some o := fun b o e => by
    have hlt : b < s3.heap.objs.size := by rw [hsz]; exact Nat.lt_succ_of_lt (Heap.lt_size e)
    exact hsb₁.extBut b o (Nat.ne_of_lt hlt) (Heap.get?_push_of_some _ (hheap ▸ Heap.get?_push_of_some _ e))
  have st4 : tn 0 h₁ := T.keep _ _ _ st2 fun b _ o e => old b o e
  have stat : ∀ {H' : Hp}, (∀ b ∈ fp, H' b = none) → ∀ b ∈ fp, FpOk (cxComp X scope cl (x :: fr.map (·.1)) fp s3 (upd H2 D (.lst []))) [] H' b := fun hn b hb =>
    ⟨hn b hb, Nat.ne_of_lt (flt b hb), fun hz => by
      rcases List.mem_cons.mp (I3.stkSub b hz) with e | e
      · exact (f3 b hb).2.1 e
      · exact (f3 b hb).2.2.1 e, .inl hb, fun y c e => (f3 b hb).2.2.2.2.1 y c (C.sub y c e), fun p hp => by cases hp⟩
  have loop : ∀ s₃ : Shared, s₃ = { s2 with heap := h₁, toks := s2.toks + ([] : List (Str × Value)).length } →
      codeAny (model X.prog X.w) X.A (.compLoop (.ListComp elt [⟨.Name x px, iter, ifs, 0⟩] scope pos) 0 (.ref it) (.ref D) (compEnvC scope cl s3.heap.objs.size X.env)) (compPost (model X.prog X.w) X.A E use Qv (.ref D) s3.heap.objs.size) s₃ := by
    intro s₃ e₃
    refine compLoop_go (fun n s' => ∃ i xv acc H', Inv (cxComp X scope cl (x :: fr.map (·.1)) fp s3 (upd H2 D (.lst []))) [] (xv :: slotsC fr σ) H' s' ∧ tn i s'.heap ∧ (∀ b ∈ fp, H' b = none) ∧ W i n acc H') ?_ m0
      ⟨0, none, [], _, by rw [e₃]; have := I4; rw [← hs3] at this ⊢; exact this, by rw [e₃]; exact st4, fun b hb => (f3 b hb).1, w0⟩
    rintro n s' ⟨i, xv, acc, H', Ic, st, frH, w⟩
    obtain ⟨hDl, ⟨stop, qn⟩ | ⟨hlen, go, step⟩⟩ := turn i n acc H' w
    · refine wpAny_mono (T.done (cxComp X scope cl (x :: fr.map (·.1)) fp s3 (upd H2 D (.lst []))) rfl rfl rfl hc i [] s' _ H' (fun _ _ => False) Ic (stat frH) st stop) (fun r s4 ⟨hr, I5⟩ => ?_) (fun _ _ z => z)
      subst hr
      obtain ⟨m, hm, _⟩ := I5.loc
      have sz3 : s3.heap.objs.size ≤ s3.heap.objs.size := Nat.le_refl _
      exact hQ s4 H' D s3.heap.objs.size m (comp_back I3 f3 I5) hm I5.free (fun z => Nat.lt_irrefl _ (z ▸ I3.lt)) (I3.nofs sz3) I3.sz
        (fun y c e z => by obtain ⟨v, ob, ho, _⟩ := I3.cell y c e; exact Nat.lt_irrefl _ (z ▸ Heap.lt_size ho)) (fun p hp z => Nat.lt_irrefl _ (z ▸ Heap.lt_size (I3.pin p hp).1)) qn
    · refine wpAny_mono (T.item (cxComp X scope cl (x :: fr.map (·.1)) fp s3 (upd H2 D (.lst []))) rfl rfl rfl hc i [] s' _ H' (fun _ _ => False) Ic (stat frH) st go) (fun r s4 ⟨u, hr, h4⟩ => ?_) (fun _ _ z => z)
      subst hr
      refine wpAny_mono h4 (fun _ s5 ⟨y, H5, I5, r5, y5, st5, fr5⟩ => ?_) (fun _ _ z => z)
      have I5' := I5.pinned (stat fr5) (T.obj _ _ st5)
      have hg : PG (cxComp X scope cl (x :: fr.map (·.1)) fp s3 (upd H2 D (.lst []))) (.Name x px) (gName 0) := pg_name C.nd rfl (Or.inl (lookup_relabel_local C.hx)) (.inr (lookup_relabel_local C.hx))
      refine wpAny_mono (hg _ s5 _ H5 y u (fun σ6 H6 => σ6 = some y :: slotsC fr σ ∧ H6 = H5) I5' r5 ⟨rfl, rfl⟩) (fun _ s6 ⟨σ6, H6, I6, e6, e6'⟩ => ?_) (fun _ _ z => z)
      subst e6 e6'
      have again : ∀ {s7 : Shared} {H7 : Hp} {m' : Nat} {acc' : List V}, Inv (cxComp X scope cl (x :: fr.map (·.1)) fp s3 (upd H2 D (.lst []))) ([] ++ pinsAt fp s5.heap) (some y :: slotsC fr σ) H7 s7 → W (i + 1) m' acc' H7 →
          ∃ i xv acc H', Inv (cxComp X scope cl (x :: fr.map (·.1)) fp s3 (upd H2 D (.lst []))) [] (xv :: slotsC fr σ) H' s7 ∧ tn i s7.heap ∧ (∀ b ∈ fp, H' b = none) ∧ W i m' acc H' := fun {s7 H7 m' acc'} I7 w7 => by
        refine ⟨i + 1, some y, acc', H7, I7.unpinned, T.keep _ _ _ st5 fun b hb o e => (I7.pin (b, o) (List.mem_append_right _ (List.mem_append_right _ (mem_pinsAt hb e)))).1, fun b hb => ?_, w7⟩
        obtain ⟨o, e, d⟩ := T.obj _ _ st5 b hb
        exact (I7.pin (b, o) (List.mem_append_right _ (List.mem_append_right _ (mem_pinsAt hb e)))).2.1
      refine wpAny_mono (ht fp s3 _ _ s6 _ H6 _ I6 (step y H6 y5)) (fun b s7 ⟨H7, I7, q7⟩ => ?_) (fun _ _ z => z)
      cases b with
      | false =>
        obtain ⟨m', hm, w7⟩ := (show ∃ m', m' < n ∧ W (i + 1) m' acc H7 from q7)
        exact ⟨m', hm, again I7 w7⟩
      | true =>
        refine wpAny_mono (he fp s3 _ _ s7 _ H7 _ I7 q7) (fun v s8 ⟨y8, H8, I8, r8, hD8, m', hm, w8⟩ => ?_) (fun _ _ z => z)
        refine wpAny_mono (mt_append (X := cxComp X scope cl (x :: fr.map (·.1)) fp s3 (upd H2 D (.lst []))) _ s8 _ H8 (.ref D) [y8] (.ref D) [v] (fun _ H9 => H9 = upd H8 D (.lst (acc ++ [y8]))) I8 rfl (.cons r8 .nil) ⟨D, acc, y8, rfl, rfl, hD8, hlen, rfl⟩) (fun _ s9 ⟨_, H9, I9, _, e9⟩ => ?_) (fun _ _ z => z)
        subst e9
        exact ⟨m', hm, again I9 w8⟩
  exact codeAny_compStart_list (loop _ rfl) (T.self X.A 0 _ _ _ st4 (loop _ rfl))
/-- a comprehension as a value -/
theorem pe_comp (C : CompOk X scope cl x fr) (hc : X.calm = true) (hi : PI X (.Name x px) iter wi) (ht : ∀ fp s H, PTs (cxComp X scope cl (x :: fr.map (·.1)) fp s H) ifs tt) (he : ∀ fp s H, PE (cxComp X scope cl (x :: fr.map (·.1)) fp s H) elt te)
    (hs : ∀ x, foldedSetIterable iter X.env x = pure x := by intro _; rfl) : PE X (.ListComp elt [⟨.Name x px, iter, ifs, 0⟩] scope pos) (tComp fr wi tt te) := by
  intro pins s σ H Q I h
  rw [eval_ListComp]
  refine comp_walk (use := none) (Q := Q) C hc hi ht he I h hs (fun _ _ z => z) ?_
  intro s₄ H₄ D Cn m I4 hm hC hL hF hS hcl hpn q
  refine ⟨m, hm, fun h' hs' => ⟨.ref D, H₄, ?_, rfl, q⟩⟩
  exact I4.turned (t' := s₄.toks) (it := Cn) (fun b o hb e => (hs'.2 b hb).trans e) hC (Ne.symm (Ne.symm hL)) (.inr hS) hcl hpn
/-- name = a comprehension -/
theorem ps_setC {i : Nat} {y : Str} {py spos : Pos} (C : CompOk X scope cl x fr) (hc : X.calm = true) (hN : X.N.Nodup) (hiy : X.N[i]? = some y) (hy : Loc X.env.scope y) (hi : PI X (.Name x px) iter wi) (ht : ∀ fp s H, PTs (cxComp X scope cl (x :: fr.map (·.1)) fp s H) ifs tt)
    (he : ∀ fp s H, PE (cxComp X scope cl (x :: fr.map (·.1)) fp s H) elt te) (hsw : swapsWith (.ListComp elt [⟨.Name x px, iter, ifs, 0⟩] scope pos) (some (.Name y py)) spos.line X.env = pure true := by rfl)
    (hs : ∀ x, foldedSetIterable iter X.env x = pure x := by intro _; rfl) (hf : X.fn y = true ∨ X.env.scope.names.lookup y = some .local := by first | exact .inl rfl | exact .inr rfl | assumption) :
    PS X (.Assign [.Name y py] (.ListComp elt [⟨.Name x px, iter, ifs, 0⟩] scope pos) spos) (tAsg (tComp fr wi tt te) (gName i)) := by
  intro pins s σ H D I h
  rw [exec_Assign_Name_used _ _ _ _ hsw]
  refine wpAny_bind (wpAny_standAt (wpAny_bind ?_))
  show wpAny _ X.A (do let _ ← comprehension (.ListComp elt [⟨.Name x px, iter, ifs, 0⟩] scope pos) scope X.env _ (newList []) false (eval iter X.env) (some (assign (.Name y py) X.env))) _ _ s
  refine wpAny_bind (wpAny_mono (comp_walk (use := some (assign (.Name y py) X.env)) (Qv := fun _ s' => SP X pins D .next s') C hc hi ht he I h hs (fun _ _ z => z) ?_) (fun _ s' hq => wpAny_pure (wpAny_pure hq)) fun _ _ z => z)
  intro s₄ H₄ Dl Cn m I4 hm hC hL hF hS hcl hpn q
  obtain ⟨oC, es, ep, ho, hdat, r⟩ := id hm
  have I5 : Inv X (pins ++ [(Cn, oC)]) σ H₄ s₄ := I4.pins_of fun p hp => (List.mem_append.mp hp).elim (fun z => I4.pin p (List.mem_append_right _ z)) fun z => by
    cases List.mem_singleton.mp z
    exact ⟨ho, hC, hL, hF, fun v e => by rw [hdat] at e; cases e⟩
  have hg : PG X (.Name y py) (gName i) := pg_name hN hiy hy hf
  refine wpAny_mono (hg _ s₄ σ H₄ (.ref Dl) (.ref Dl) D.nx I5 rfl q) (fun _ s5 ⟨σ5, H5, I6, q5⟩ => ?_) (fun _ _ z => z)
  have hp := I6.pin (Cn, oC) (List.mem_append_right _ (List.mem_append_right _ (List.mem_singleton.mpr rfl)))
  refine ⟨m, ⟨oC, es, ep, hp.1, hdat, r⟩, fun h' hs' => ⟨σ5, H5, ?_, q5⟩⟩
  exact I6.unpinned.turned (t' := s5.toks) (it := Cn) (fun b o hb e => (hs'.2 b hb).trans e) hp.2.1 hL (.inr hS) hcl hpn
end
end L2
/-! ### what the laws' own small defs promise (the same text in several rows) -/
namespace R
open PySem L2 PyProof.Rows
/-- a def of the top -/
structure Df (K : PySem.W.Frag) (mg : Str → Option Value) (x : Str) (st : Stmt) (ps : List Str) where
  f : Addr
  fd : FuncData
  F : Fun K x x st f fd
  b : Binds K fd ps []
  m : mg x = some (.ref f)
/-- Python's own names that the text does not bind -/
structure Bi (mg : Str → Option Value) : Prop where
  len : mg "len" = none
  range : mg "range" = none
  min : mg "min" = none
  max : mg "max" = none
  isin : mg "isinstance" = none
  bool : mg "bool" = none
  list : mg "list" = none
noncomputable def df_mk {K : PySem.W.Frag} {h : Heap} {mg : Str → Option Value} (X : K.In h) (G : h.Ns mainGlobals mg) {x : Str} {st : Stmt} {f : Addr} {ps : List Str} {od an : Option Addr} {osl : Array (Option Value)} {oc kV doc pm cdv ct : Value}
    (a : PySem.W.nsIn K mainGlobals x = some (some (.ref f)))
    (l : K.lookup f = some ⟨oc, od, .func (PySem.W.fnOf x x (defArgs st) (defBody st) (defScope st) .none kV doc pm an cdv ct), osl⟩)
    (c : PySem.W.codeIn K cdv x = true) (k : PySem.W.keepIn K (.ref f) = true)
    (h : ∀ (kV doc pm : Value) (an : Option Addr) (cdv ct : Value) (us : List Value), us.length = ps.length → bindArgs (PySem.W.fnOf x x (defArgs st) (defBody st) (defScope st) .none kV doc pm an cdv ct) ⟨us, []⟩ = pure (ps.zip us)) :
    Df K mg x st ps :=
  ⟨f, _, fun_mk (st := st) l c k, (fun_mk (st := st) l c k).binds h, PySem.W.mg_of X G a⟩
theorem small5 {n : Nat} (h : n ≤ 5000) : n < sizeLine := Nat.lt_of_le_of_lt h (by decide)
theorem pw (n : Nat) : (0 : Int) < 10 ^ n := by
  induction n with
  | zero => decide
  | succ n ih => rw [Int.pow_succ]; omega
theorem atI_int {ns : List Int} {k : Int} (h0 : 0 ≤ k) (h1 : k < ns.length) : ∃ z, atI (ns.map V.int) k = some (V.int z) := by
  have hz : k.toNat < ns.length := by omega
  have e : (ns.map V.int)[k.toNat]? = some (V.int ns[k.toNat]) := by simp [hz]
  have e2 : ((k.toNat : Nat) : Int) = k := by omega
  have := atI_nat e
  rw [e2] at this
  exact ⟨_, this⟩
/-- the mask of a cell -/
def mkN (z k : Int) : Int := (z % 10 ^ (12 : Int).toNat + 7 * k + 1) * 48271 % 2147483647
/-- two places as a link -/
def lkN (u v : Int) : Int × Int := (if v < u then v else u, if v > u then v else u)
def spCell (K : PySem.W.Frag) : Sp := fun vs H Q _ => ∃ (a : Addr) (ns : List Int) (k : Int), vs = [.ref a, .int k] ∧ SqL K H a (ns.map V.int) ∧ 0 ≤ k ∧ ∀ z : Int, Q (.int z) H
def spSize : Sp := fun vs H Q _ => ∃ c : Int, vs = [.int c] ∧ ∀ n : Int, 0 ≤ n → n ≤ 40 → Q (.int n) H
def spMeant : Sp := fun vs H Q _ => ∃ mask way u v n : Int, vs = [.int mask, .int way, .int u, .int v, .int n] ∧ 2 ≤ n ∧ ∀ b : Bool, Q (.bl b) H
def Good (n : Int) (ps : List (Int × Int)) : Prop := (∀ p ∈ ps, 0 ≤ p.1 ∧ p.1 < p.2 ∧ p.2 < n) ∧ ps.Nodup
theorem Good.rev {n : Int} {ps : List (Int × Int)} (h : Good n ps) : Good n ps.reverse := ⟨fun p hp => h.1 p (List.mem_reverse.mp hp), List.pairwise_reverse.mpr (h.2.imp Ne.symm)⟩
theorem Good.snoc {n : Int} {ps : List (Int × Int)} {q : Int × Int} (h : Good n ps) (h1 : 0 ≤ q.1) (h2 : q.1 < q.2) (h3 : q.2 < n) (h4 : ¬ q ∈ ps) : Good n (ps ++ [q]) := by
  refine ⟨fun p hp => ?_, nd_snoc h.2 h4⟩
  rcases List.mem_append.mp hp with z | z
  · exact h.1 p z
  · cases List.mem_singleton.mp z; exact ⟨h1, h2, h3⟩
def spNet (K : PySem.W.Frag) : Sp := fun vs H Q _ => ∃ (a : Addr) (ns : List Int) (first n : Int), vs = [.ref a, .int first, .int n] ∧ SqL K H a (ns.map V.int) ∧ ns.length ≤ 63 ∧ 0 ≤ first ∧ first ≤ 10 ∧ 0 ≤ n ∧ n ≤ 40 ∧
  ∀ (l : Addr) (ps : List (Int × Int)) (H' : Hp), H l = none → Same H H' → PL H' l ps → Good n ps → ps.length ≤ 480 → Q (.ref l) H'
end R
/-! ### OWN EXTENSION: a text walked sign by sign, slices of texts, all([..]) -/
namespace L2
open PySem PySem.Spec PyProof.Rows
/-- the signs of a text -/
def Its (z : Str) : It := ⟨fun i _ => i < z.cps.size, fun i H x H' => H' = H ∧ ∃ c, z.cps[i]? = some c ∧ x = .str ⟨#[c]⟩, fun i _ => z.cps.size ≤ i⟩
theorem str_obj {T : String} {it b : Addr} {z : Str} {t : Tok} {i : Nat} {h : Heap} (st : h.IsStrIter it T z t i) (hb : b ∈ [it]) : ∃ o, h.get? b = some o ∧ ∀ v, o.data ≠ .cell v := by
  have e : b = it := by simpa using hb
  subst e
  obtain ⟨o, e, c, d⟩ := st
  exact ⟨o, e, fun v z => by rw [d] at z; cases z⟩
theorem str_keep {T : String} {it : Addr} {z : Str} {t : Tok} {i : Nat} {h h' : Heap} (st : h.IsStrIter it T z t i) (k : ∀ b ∈ [it], ∀ o, h.get? b = some o → h'.get? b = some o) : h'.IsStrIter it T z t i := by
  obtain ⟨o, e, r⟩ := st
  exact ⟨o, k it (by simp) o e, r⟩
theorem turn_ascii {P : Program} {w : World} {K : PySem.W.Frag} {tg : Expr} (it : Addr) (z : Str) (t : Tok) : Turn P w K tg (Its z) [it] it (fun i h => h.IsStrIter it "str_ascii_iterator" z t i) where
  mem := by simp
  obj := fun i h st b hb => str_obj st hb
  keep := fun i h h' st k => str_keep st k
  item := by
    intro X hP hw hK hc i pins s σ H E I hf st hg
    subst hP hw hK
    obtain ⟨f0, f1, f2, f3, f4, f5⟩ := hf it (by simp)
    have hi : i < z.cps.size := hg
    refine wpAny_pyNext_ascii_item st (c := z.cps[i]) (by simp [hi]) fun h' st' sb => ?_
    have I1 : Inv X pins σ H { s with heap := h', toks := s.toks + 1 } := I.turned (fun b o hb e => sb.extBut b o hb e) f0 f1 f3 f4 f5
    obtain ⟨o, e, c, d⟩ := id st'
    exact ⟨_, rfl, go_of (s := { s with heap := h', toks := s.toks + 1 }) e c d (by decide) ⟨.str ⟨#[z.cps[i]]⟩, H, I1, ⟨_, rfl⟩, ⟨rfl, _, by simp [hi], rfl⟩, st', fun b hb => (hf b hb).1⟩⟩
  done := by
    intro X hP hw hK hc i pins s σ H E I hf st hg
    subst hP hw hK
    obtain ⟨f0, f1, f2, f3, f4, f5⟩ := hf it (by simp)
    have hi : z.cps.size ≤ i := hg
    exact wpAny_pyNext_ascii_end (I.ok.hd hc) st (by simp [hi]) fun h' eb => ⟨rfl, I.turned (t' := s.toks) (fun b o hb e => eb b o hb e) f0 f1 f3 f4 f5⟩
  self := fun _ _ _ _ _ st h => wpAny_pyIter_striter_ascii st h
theorem turn_wide {P : Program} {w : World} {K : PySem.W.Frag} {tg : Expr} (it : Addr) (z : Str) (t : Tok) : Turn P w K tg (Its z) [it] it (fun i h => h.IsStrIter it "str_iterator" z t i) where
  mem := by simp
  obj := fun i h st b hb => str_obj st hb
  keep := fun i h h' st k => str_keep st k
  item := by
    intro X hP hw hK hc i pins s σ H E I hf st hg
    subst hP hw hK
    obtain ⟨f0, f1, f2, f3, f4, f5⟩ := hf it (by simp)
    have hi : i < z.cps.size := hg
    refine wpAny_pyNext_wide_item st (c := z.cps[i]) (by simp [hi]) fun h' st' sb => ?_
    have I1 : Inv X pins σ H { s with heap := h', toks := s.toks + 1 } := I.turned (fun b o hb e => sb.extBut b o hb e) f0 f1 f3 f4 f5
    obtain ⟨o, e, c, d⟩ := id st'
    exact ⟨_, rfl, go_of (s := { s with heap := h', toks := s.toks + 1 }) e c d (by decide) ⟨.str ⟨#[z.cps[i]]⟩, H, I1, ⟨_, rfl⟩, ⟨rfl, _, by simp [hi], rfl⟩, st', fun b hb => (hf b hb).1⟩⟩
  done := by
    intro X hP hw hK hc i pins s σ H E I hf st hg
    subst hP hw hK
    obtain ⟨f0, f1, f2, f3, f4, f5⟩ := hf it (by simp)
    have hi : z.cps.size ≤ i := hg
    exact wpAny_pyNext_wide_end (I.ok.hd hc) st (by simp [hi]) fun h' eb => ⟨rfl, I.turned (t' := s.toks) (fun b o hb e => eb b o hb e) f0 f1 f3 f4 f5⟩
  self := fun _ _ _ _ _ st h => wpAny_pyIter_striter_wide st h
section
variable {X : Cx} {tg : Expr}
def iStr (tl : TE) : TI := fun σ H R => tl σ H fun x H1 => ∃ z, x = .str z ∧ R (Its z) H1
theorem pi_str {l : Expr} {tl : TE} (hl : PE X l tl) : PI X tg l (iStr tl) := by
  intro pins s σ H R I h
  refine thn (hl pins s σ H _ I h) fun v s1 ⟨x, H1, I1, r1, q1⟩ => ?_
  obtain ⟨z, e, q⟩ := q1
  subst e
  obtain ⟨t, rfl⟩ := r1
  have fin : ∀ b ∈ [s1.heap.objs.size], FpOk X pins H1 b := fun b hb => by
    have e : b = s1.heap.objs.size := by simpa using hb
    subst e
    exact I1.fpOk (Nat.le_refl _) (I1.hok.fresh (Nat.le_refl _))
  cases ha : z.cps.all (· < 128)
  · exact wpAny_pyIter_wide ha ⟨s1.heap.objs.size, [s1.heap.objs.size], _, _, H1, rfl, I1.kept (t' := s1.toks) fun b o e => Heap.get?_push_of_some _ e, turn_wide _ z t, ⟨_, Heap.get?_push_size _ rfl, rfl, rfl⟩, fin, q⟩
  · exact wpAny_pyIter_ascii ha ⟨s1.heap.objs.size, [s1.heap.objs.size], _, _, H1, rfl, I1.kept (t' := s1.toks) fun b o e => Heap.get?_push_of_some _ e, turn_ascii _ z t, ⟨_, Heap.get?_push_size _ rfl, rfl, rfl⟩, fin, q⟩
theorem for_str {z : Str} {g : TG} {tb : TS} {D : Ends} {σ : St} {H : Hp} (Pv : Nat → St → Hp → Prop) (h0 : Pv 0 σ H)
    (hs : ∀ i c σ H, z.cps[i]? = some c → Pv i σ H → g (.str ⟨#[c]⟩) σ H fun σ2 H2 => tb { D with nx := Pv (i + 1), ct := Pv (i + 1), bk := D.nx } σ2 H2) (hd : ∀ σ H, Pv z.cps.size σ H → D.nx σ H) :
    ∃ W : Nat → Nat → St → Hp → Prop, (∃ m, W 0 m σ H) ∧ ∀ i m σ H, W i m σ H →
      ((Its z).stop i H ∧ D.nx σ H) ∨ ((Its z).go i H ∧ ∃ N : St → Hp → Prop, (∀ σ' H', N σ' H' → ∃ m', m' < m ∧ W (i + 1) m' σ' H') ∧ ∀ x H', (Its z).yld i H x H' → g x σ H' fun σ2 H2 => tb { D with nx := N, ct := N, bk := D.nx } σ2 H2) := by
  refine ⟨fun i m σ H => m = z.cps.size - i ∧ i ≤ z.cps.size ∧ Pv i σ H, ⟨z.cps.size, by simp, Nat.zero_le _, h0⟩, ?_⟩
  rintro i m σ H ⟨rfl, hi, p⟩
  by_cases hlt : i < z.cps.size
  · refine .inr ⟨hlt, Pv (i + 1), fun σ' H' p' => ⟨z.cps.size - (i + 1), by omega, rfl, hlt, p'⟩, fun x H' y => ?_⟩
    obtain ⟨e, c, hc, e'⟩ := y
    subst e e'
    exact hs i c σ _ hc p
  · have e : i = z.cps.size := by omega
    subst e
    exact .inl ⟨Nat.le_refl _, hd σ H p⟩
/-- x[lo:hi] of a text: a text, no longer -/
def rSlS : V → Option Int → Option Int → Hp → VK → Prop := fun x _ _ H Q => ∃ z, x = .str z ∧ z.length ≤ sizeLine ∧ ∀ y : Str, y.length ≤ z.length → Q (.str y) H
theorem sl_str : SlR X rSlS := by
  intro pins s σ H x v vl vu lo hi sl Q I rx hs pl pu h
  obtain ⟨z, rfl, hz, q⟩ := h
  obtain ⟨t, rfl⟩ := rx
  refine ⟨"str", _, F.slot_str_getitem.lookup, typeIs_str _ _ _, ?_⟩
  have fin : ∀ y : Str, y.length ≤ z.length → ∀ (t' : Tok) (k : Nat), EP X pins σ Q (.str y t') { s with toks := k } := fun y hy t' k => ⟨.str y, H, I.tok _, ⟨_, rfl⟩, q y hy⟩
  cases pl with
  | none => cases pu with
    | none => exact wpAny_getItem_str_slice (l := none) (u := none) (st := none) hs rfl (post_val_or_str ⟨Nat.le_trans (Txt.slice_le z _ _) hz, fun t' k => fin _ (Txt.slice_le z _ _) t' k⟩)
    | int j uj => exact wpAny_getItem_str_slice (l := none) (u := some (j, uj)) (st := none) hs rfl (post_val_or_str ⟨Nat.le_trans (Txt.slice_le z _ _) hz, fun t' k => fin _ (Txt.slice_le z _ _) t' k⟩)
  | int i ui => cases pu with
    | none => exact wpAny_getItem_str_slice (l := some (i, ui)) (u := none) (st := none) hs rfl (post_val_or_str ⟨Nat.le_trans (Txt.slice_le z _ _) hz, fun t' k => fin _ (Txt.slice_le z _ _) t' k⟩)
    | int j uj => exact wpAny_getItem_str_slice (l := some (i, ui)) (u := some (j, uj)) (st := none) hs rfl (post_val_or_str ⟨Nat.le_trans (Txt.slice_le z _ _) hz, fun t' k => fin _ (Txt.slice_le z _ _) t' k⟩)
/-- all(xs), xs a list of truths -/
theorem call_allB (hc : X.calm = true) : CallR X (.builtin "all") (fun xs H Q => ∃ (p : Addr) (bs : List Bool), xs = [.ref p] ∧ SqL X.K H p (bs.map V.bl) ∧ Q (.bl (bs.all id)) H) := by
  intro pins s σ H xs us Q I r h
  obtain ⟨p, bs, rfl, hq, q⟩ := h
  obtain ⟨u, rfl, rx⟩ := vals1 r
  cases rx
  obtain ⟨its, r', pl, hz⟩ := I.list hq
  have hlen : bs.length = its.length := by have := r'.length; rwa [List.length_map] at this
  have hh : X.A.in1.handled = none := I.ok.hd hc
  have hlt : p < s.heap.objs.size := by obtain ⟨o, ho, _⟩ := pl.isList; exact Heap.lt_size ho
  have hne : p ≠ s.heap.objs.size := Nat.ne_of_lt hlt
  refine call_all_walk (wpAny_pyIter_list pl.isList ?_)
  have hat : ∀ (i : Nat) (v : Value), its.toArray[i]? = some v → v = Value.bool (bs.getD i false) := fun i v e => by
    have e' : its[i]? = some v := by simpa using e
    have hi : i < bs.length := by
      have := (List.getElem?_eq_some_iff.mp e').1
      omega
    have hb : (bs.map V.bl)[i]? = some (.bl (bs.getD i false)) := by
      rw [List.getElem?_map, List.getD_eq_getElem?_getD, List.getElem?_eq_getElem hi]; rfl
    obtain ⟨u, hu, ru⟩ := r'.get hb
    rw [e'] at hu
    cases hu
    exact ru
  refine ⟨_, _, _, _, _, _, fun i => bs.getD i false, rfl, Walks.list hh s.heap.objs.size p hne its.toArray, ⟨⟨_, Heap.get?_push_size _ rfl, rfl, rfl⟩, pl.isList.at fun o e => Heap.get?_push_of_some _ e⟩, ?_, ?_⟩
  · intro i v s' Q' E' hP hQ
    rw [hat i v hP]
    exact wpAny_truthy_bool hQ
  · intro h' tk hk
    refine ⟨.bl (bs.all id), H, ?_, ?_, q⟩
    · have I1 : Inv X pins σ H { s with heap := s.heap.push { cls := .type "list_iterator", data := .fields #[.ref p, .int 0 0] } } := I.kept (t' := s.toks) fun b o e => Heap.get?_push_of_some _ e
      have f := I.fpOk (b := s.heap.objs.size) (H' := H) (Nat.le_refl _) (I.hok.fresh (Nat.le_refl _))
      exact Inv.turned (t' := tk) I1 (fun b o hb e => hk b o (by simpa using hb) e) f.1 f.2.1 f.2.2.2.1 f.2.2.2.2.1 f.2.2.2.2.2
    · show Value.bool _ = Value.bool _
      congr 1
      rw [List.size_toArray, ← hlen]
      have : bs.all id = (List.range bs.length).all fun i => bs.getD i false := by
        rw [Bool.eq_iff_iff, List.all_eq_true, List.all_eq_true]
        constructor
        · intro h i hi
          have hi' : i < bs.length := List.mem_range.mp hi
          rw [List.getD_eq_getElem?_getD, List.getElem?_eq_getElem hi']
          exact h _ (List.getElem_mem hi')
        · intro h b hb
          obtain ⟨i, hi, rfl⟩ := List.mem_iff_getElem.mp hb
          have := h i (List.mem_range.mpr hi)
          rw [List.getD_eq_getElem?_getD, List.getElem?_eq_getElem hi] at this
          exact this
      exact this.symm
end
end L2
/-! ### OWN EXTENSION: what a comprehension must have, looked up by computation -/
namespace L2
open PySem PySem.Spec PyProof.Rows
def SubL (cells : List (Str × Addr)) : List (Str × Addr) → Prop
  | [] => True
  | p :: r => cells.lookup p.1 = some p.2 ∧ SubL cells r
def FreL (N : List Str) (names rn : List (Str × NameKind)) : List (Str × Nat) → Prop
  | [] => True
  | p :: r => (N[p.2]? = some p.1 ∧ (names.lookup p.1 = some .cell ∨ names.lookup p.1 = some .free) ∧ (rn.lookup p.1 = some .cell ∨ rn.lookup p.1 = some .free)) ∧ FreL N names rn r
theorem mem_of_lookup {β : Type} {y : Str} {k : β} : ∀ {l : List (Str × β)}, l.lookup y = some k → (y, k) ∈ l
  | [], h => by simp at h
  | (n, v) :: r, h => by
    rw [List.lookup_cons] at h
    by_cases e : (y == n) = true
    · rw [e] at h
      have e' : y = n := eq_of_beq e
      have h' : v = k := Option.some.inj h
      rw [e', h']
      exact List.mem_cons_self ..
    · have e' : (y == n) = false := by simpa using e
      rw [e'] at h
      exact List.mem_cons_of_mem _ (mem_of_lookup h)
theorem SubL.mem {cells : List (Str × Addr)} : ∀ {l : List (Str × Addr)}, SubL cells l → ∀ p ∈ l, cells.lookup p.1 = some p.2
  | [], _, p, hp => by cases hp
  | q :: r, h, p, hp => by
    rcases List.mem_cons.mp hp with e | e
    · exact e ▸ h.1
    · exact SubL.mem h.2 p e
theorem FreL.mem {N : List Str} {names rn : List (Str × NameKind)} : ∀ {l : List (Str × Nat)}, FreL N names rn l → ∀ p ∈ l, N[p.2]? = some p.1 ∧ (names.lookup p.1 = some .cell ∨ names.lookup p.1 = some .free) ∧ (rn.lookup p.1 = some .cell ∨ rn.lookup p.1 = some .free)
  | [], _, p, hp => by cases hp
  | q :: r, h, p, hp => by
    rcases List.mem_cons.mp hp with e | e
    · exact e ▸ h.1
    · exact FreL.mem h.2 p e
theorem compOk {X : Cx} {scope : Scope} {cl : List (Str × Addr)} {x : Str} {fr : List (Str × Nat)} (clos : closureFor scope X.env = pure cl := by rfl) (kind : scope.kind = .function := by rfl)
    (nocell : (scope.names.all fun y => decide (y.2 ≠ .cell)) = true := by rfl) (names : (scope.names.all fun y => decide (y.2 = .local → scope.names.lookup y.1 = some .local)) = true := by decide +kernel) (hx : scope.names.lookup x = some .local := by rfl)
    (sub : SubL X.env.cells cl := by repeat (first | exact trivial | refine ⟨rfl, ?_⟩))
    (has : ((relabel scope X.env).names.all fun p => (decide (p.2 ≠ .cell) && decide (p.2 ≠ .free)) || (cl.lookup p.1).isSome) = true := by rfl)
    (fre : FreL X.N X.env.scope.names (relabel scope X.env).names fr := by repeat (first | exact trivial | refine ⟨⟨rfl, .inl rfl, .inl rfl⟩, ?_⟩))
    (nd : (x :: fr.map (·.1)).Nodup := by decide +kernel) : CompOk X scope cl x fr where
  clos := clos
  kind := kind
  nocell := fun y hy => of_decide_eq_true (List.all_eq_true.mp nocell y hy)
  names := fun y hy => of_decide_eq_true (List.all_eq_true.mp names y hy)
  hx := hx
  sub := fun y c e => SubL.mem sub (y, c) (mem_of_lookup e)
  has := fun y h => by
    have q : ∀ k, (k = NameKind.cell ∨ k = NameKind.free) → (relabel scope X.env).names.lookup y = some k → ∃ c, cl.lookup y = some c := fun k hk e => by
      have m := List.all_eq_true.mp has (y, k) (mem_of_lookup e)
      rcases hk with rfl | rfl
      · exact Option.isSome_iff_exists.mp (by simpa using m)
      · exact Option.isSome_iff_exists.mp (by simpa using m)
    rcases h with e | e
    · exact q _ (.inl rfl) e
    · exact q _ (.inr rfl) e
  fre := FreL.mem fre
  nd := nd
end L2
namespace L2
open PySem PySem.Spec PyProof.Rows
section
variable {tt : TT} {te : TE} {fr : List (Str × Nat)} {σ : St} {R : Hp → Prop} {D : Addr} {H1 : Hp}
/-- a comprehension over a text, by a word -/
theorem comp_str {z : Str} (Pv : Nat → List V → Hp → Prop) (h0 : Pv 0 [] (upd H1 D (.lst []))) (hD : ∀ i acc H2, i ≤ z.cps.size → Pv i acc H2 → H2 D = some (.lst acc) ∧ acc.length < sizeLine)
    (hs : ∀ i c acc H2 (N : List V → Hp → Prop), z.cps[i]? = some c → (∀ acc' H', Pv (i + 1) acc' H' → N acc' H') → Pv i acc H2 → tt (some (.str ⟨#[c]⟩) :: slotsC fr σ) H2 fun b H4 =>
      if b = true then te (some (.str ⟨#[c]⟩) :: slotsC fr σ) H4 fun y H5 => H5 D = some (.lst acc) ∧ N (acc ++ [y]) (upd H5 D (.lst (acc ++ [y]))) else N acc H4)
    (hd : ∀ acc H2, Pv z.cps.size acc H2 → R H2) :
    ∃ W : Nat → Nat → List V → Hp → Prop, (∃ m, W 0 m [] (upd H1 D (.lst []))) ∧ ∀ i m acc H2, W i m acc H2 →
      H2 D = some (.lst acc) ∧ (((Its z).stop i H2 ∧ R H2) ∨ (acc.length < sizeLine ∧ (Its z).go i H2 ∧ ∀ x H3, (Its z).yld i H2 x H3 → tt (some x :: slotsC fr σ) H3 fun b H4 =>
        if b = true then te (some x :: slotsC fr σ) H4 fun y H5 => H5 D = some (.lst acc) ∧ ∃ m', m' < m ∧ W (i + 1) m' (acc ++ [y]) (upd H5 D (.lst (acc ++ [y]))) else ∃ m', m' < m ∧ W (i + 1) m' acc H4)) := by
  refine ⟨fun i m acc H => m = z.cps.size - i ∧ i ≤ z.cps.size ∧ Pv i acc H, ⟨z.cps.size, by simp, Nat.zero_le _, h0⟩, ?_⟩
  rintro i m acc H2 ⟨rfl, hi, p⟩
  obtain ⟨d1, d2⟩ := hD i acc H2 hi p
  refine ⟨d1, ?_⟩
  by_cases hlt : i < z.cps.size
  · refine .inr ⟨d2, hlt, fun x H3 y => ?_⟩
    obtain ⟨e, c, hc, e'⟩ := y
    subst e e'
    exact hs i c acc _ (fun acc' H' => ∃ m', m' < z.cps.size - i ∧ m' = z.cps.size - (i + 1) ∧ i + 1 ≤ z.cps.size ∧ Pv (i + 1) acc' H') hc (fun acc' H' q => ⟨_, by omega, rfl, hlt, q⟩) p
  · have e : i = z.cps.size := by omega
    subst e
    exact .inl ⟨Nat.le_refl _, hd acc H2 p⟩
theorem comp_range {lo : Int} {n : Nat} (Pv : Nat → List V → Hp → Prop) (h0 : Pv 0 [] (upd H1 D (.lst []))) (hD : ∀ i acc H2, i ≤ n → Pv i acc H2 → H2 D = some (.lst acc) ∧ acc.length < sizeLine)
    (hs : ∀ (i : Nat) acc H2 (N : List V → Hp → Prop), i < n → (∀ acc' H', Pv (i + 1) acc' H' → N acc' H') → Pv i acc H2 → tt (some (.int (lo + i)) :: slotsC fr σ) H2 fun b H4 =>
      if b = true then te (some (.int (lo + i)) :: slotsC fr σ) H4 fun y H5 => H5 D = some (.lst acc) ∧ N (acc ++ [y]) (upd H5 D (.lst (acc ++ [y]))) else N acc H4)
    (hd : ∀ acc H2, Pv n acc H2 → R H2) :
    ∃ W : Nat → Nat → List V → Hp → Prop, (∃ m, W 0 m [] (upd H1 D (.lst []))) ∧ ∀ i m acc H2, W i m acc H2 →
      H2 D = some (.lst acc) ∧ (((Itr lo n).stop i H2 ∧ R H2) ∨ (acc.length < sizeLine ∧ (Itr lo n).go i H2 ∧ ∀ x H3, (Itr lo n).yld i H2 x H3 → tt (some x :: slotsC fr σ) H3 fun b H4 =>
        if b = true then te (some x :: slotsC fr σ) H4 fun y H5 => H5 D = some (.lst acc) ∧ ∃ m', m' < m ∧ W (i + 1) m' (acc ++ [y]) (upd H5 D (.lst (acc ++ [y]))) else ∃ m', m' < m ∧ W (i + 1) m' acc H4)) := by
  refine ⟨fun i m acc H => m = n - i ∧ i ≤ n ∧ Pv i acc H, ⟨n, by simp, Nat.zero_le _, h0⟩, ?_⟩
  rintro i m acc H2 ⟨rfl, hi, p⟩
  obtain ⟨d1, d2⟩ := hD i acc H2 hi p
  refine ⟨d1, ?_⟩
  by_cases hlt : i < n
  · refine .inr ⟨d2, hlt, fun x H3 y => ?_⟩
    obtain ⟨e, e'⟩ := y
    subst e e'
    exact hs i acc _ (fun acc' H' => ∃ m', m' < n - i ∧ m' = n - (i + 1) ∧ i + 1 ≤ n ∧ Pv (i + 1) acc' H') hlt (fun acc' H' q => ⟨_, by omega, rfl, hlt, q⟩) p
  · have e : i = n := by omega
    subst e
    exact .inl ⟨Nat.le_refl _, hd acc H2 p⟩
theorem comp_list {K : PySem.W.Frag} {a : Addr} {xs : List V} (Pv : Nat → List V → Hp → Prop) (h0 : Pv 0 [] (upd H1 D (.lst []))) (hD : ∀ i acc H2, i ≤ xs.length → Pv i acc H2 → H2 D = some (.lst acc) ∧ acc.length < sizeLine ∧ SqL K H2 a xs)
    (hs : ∀ i x acc H2 (N : List V → Hp → Prop), xs[i]? = some x → (∀ acc' H', Pv (i + 1) acc' H' → N acc' H') → Pv i acc H2 → tt (some x :: slotsC fr σ) H2 fun b H4 =>
      if b = true then te (some x :: slotsC fr σ) H4 fun y H5 => H5 D = some (.lst acc) ∧ N (acc ++ [y]) (upd H5 D (.lst (acc ++ [y]))) else N acc H4)
    (hd : ∀ acc H2, Pv xs.length acc H2 → R H2) :
    ∃ W : Nat → Nat → List V → Hp → Prop, (∃ m, W 0 m [] (upd H1 D (.lst []))) ∧ ∀ i m acc H2, W i m acc H2 →
      H2 D = some (.lst acc) ∧ (((Itl K a).stop i H2 ∧ R H2) ∨ (acc.length < sizeLine ∧ (Itl K a).go i H2 ∧ ∀ x H3, (Itl K a).yld i H2 x H3 → tt (some x :: slotsC fr σ) H3 fun b H4 =>
        if b = true then te (some x :: slotsC fr σ) H4 fun y H5 => H5 D = some (.lst acc) ∧ ∃ m', m' < m ∧ W (i + 1) m' (acc ++ [y]) (upd H5 D (.lst (acc ++ [y]))) else ∃ m', m' < m ∧ W (i + 1) m' acc H4)) := by
  refine ⟨fun i m acc H => m = xs.length - i ∧ i ≤ xs.length ∧ Pv i acc H, ⟨xs.length, by simp, Nat.zero_le _, h0⟩, ?_⟩
  rintro i m acc H2 ⟨rfl, hi, p⟩
  obtain ⟨d1, d2, d3⟩ := hD i acc H2 hi p
  refine ⟨d1, ?_⟩
  by_cases hlt : i < xs.length
  · refine .inr ⟨d2, ⟨xs, xs[i], d3, by simp [hlt]⟩, fun x H3 y => ?_⟩
    obtain ⟨e, y⟩ := y
    subst e
    exact hs i x acc _ (fun acc' H' => ∃ m', m' < xs.length - i ∧ m' = xs.length - (i + 1) ∧ i + 1 ≤ xs.length ∧ Pv (i + 1) acc' H') (y xs d3) (fun acc' H' q => ⟨_, by omega, rfl, hlt, q⟩) p
  · have e : i = xs.length := by omega
    subst e
    exact .inl ⟨⟨xs, d3, Nat.le_refl _⟩, hd acc H2 p⟩
end
end L2
/-! ### OWN EXTENSION: range(n) as a value, list(range(n)) -/
namespace L2
open PySem PySem.Spec PyProof.Rows
theorem vals_of_get : ∀ {xs : List V} {us : List Value}, xs.length = us.length → (∀ (j : Nat) (x : V) (u : Value), xs[j]? = some x → us[j]? = some u → RelV x u) → Vals xs us
  | [], [], _, _ => .nil
  | [], _ :: _, h, _ => by simp at h
  | _ :: _, [], h, _ => by simp at h
  | x :: xs, u :: us, h, q => .cons (q 0 x u rfl rfl) (vals_of_get (by simpa using h) fun j y w a b => q (j + 1) y w (by simpa using a) (by simpa using b))
/-- the marks of the places 0 to n - 1 -/
def rngV (n : Nat) (f : Int → Int) : List V := (List.range n).map fun i : Nat => V.int (f (i : Int))
def rngB (n : Nat) (f : Int → Bool) : List V := (List.range n).map fun i : Nat => V.bl (f (i : Int))
theorem rngV_len (n : Nat) (f : Int → Int) : (rngV n f).length = n := by unfold rngV; rw [List.length_map, List.length_range]
theorem rngB_len (n : Nat) (f : Int → Bool) : (rngB n f).length = n := by unfold rngB; rw [List.length_map, List.length_range]
theorem rngV_get {n : Nat} {f : Int → Int} {i : Nat} (h : i < n) : (rngV n f)[i]? = some (.int (f (i : Int))) := by unfold rngV; rw [List.getElem?_map, List.getElem?_range h]; rfl
theorem rngB_get {n : Nat} {f : Int → Bool} {i : Nat} (h : i < n) : (rngB n f)[i]? = some (.bl (f (i : Int))) := by unfold rngB; rw [List.getElem?_map, List.getElem?_range h]; rfl
theorem rngV_at {n : Nat} {f : Int → Int} {p : Int} (h0 : 0 ≤ p) (h1 : p < n) : atI (rngV n f) p = some (.int (f p)) := by
  have e : ((p.toNat : Nat) : Int) = p := by omega
  have := atI_nat (rngV_get (f := f) (show p.toNat < n by omega))
  rwa [e] at this
theorem rngB_at {n : Nat} {f : Int → Bool} {p : Int} (h0 : 0 ≤ p) (h1 : p < n) : atI (rngB n f) p = some (.bl (f p)) := by
  have e : ((p.toNat : Nat) : Int) = p := by omega
  have := atI_nat (rngB_get (f := f) (show p.toNat < n by omega))
  rwa [e] at this
section
variable {X : Cx}
def tRange1 (ta : TA) : TE := fun σ H Q => ta σ H fun vs H1 => ∃ n : Int, vs = [.int n] ∧ ∀ r, H1 r = none → Q (.ref r) (upd H1 r (.rng 0 n))
theorem pe_range1 {a : Expr} {ta : TA} {p pos : Pos} (hg : Gl X "range") (hm : X.mg "range" = none) (ha : PA X [a] ta) (hs : starEach [a] X.env = [(false, eval a X.env)] := by rfl) : PE X (.Call (.Name "range" p) [a] [] pos) (tRange1 ta) := by
  intro pins s σ H Q I h
  refine Call_ (ld_blt I hg hm boot_range (PyProof.Rows.callWith_type1 (thn (ha pos pins s σ H _ I h) fun us s1 ⟨vs, H1, I1, r1, q1⟩ => ?_) hs rfl))
  obtain ⟨n, e, q⟩ := q1
  subst e
  cases r1 with
  | cons r rr =>
    cases rr
    obtain ⟨t, rfl⟩ := r
    exact call_range_1 ⟨.ref s1.heap.objs.size, _, I1.laid (o := .rng 0 n) (fun b o e => Heap.get?_push_of_some _ e) (Nat.le_refl _) ⟨_, _, _, Heap.get?_push_size _ rfl⟩, rfl, q _ (I1.hok.fresh (Nat.le_refl _))⟩
theorem call_list_rng (hc : X.calm = true) : CallR X (.type "list") (fun xs H Q => ∃ (r : Addr) (n : Int), xs = [.ref r] ∧ H r = some (.rng 0 n) ∧ 0 ≤ n ∧ n ≤ 100000 ∧ ∀ l, H l = none → Q (.ref l) (upd H l (.lst (rngV n.toNat fun p => p)))) := by
  intro pins s σ H xs us Q I rs h
  obtain ⟨r, n, rfl, hr, n0, n1, q⟩ := h
  obtain ⟨u, rfl, rx⟩ := vals1 rs
  cases rx
  obtain ⟨t, u, v, ho⟩ := (show ∃ t u v, s.heap.get? r = some { cls := .type "range", data := .fields #[.int 0 t, .int n u, .int 1 v] } from I.hok r _ hr)
  refine call_list_range (n := n.toNat) (I.ok.hd hc) (show IsRange s.heap r 0 n 1 t u v from ho) (small_one (by omega) (by omega) (by omega) (by omega)) ?_ (by omega) fun h' tk acc' c' hk hS hacc => ?_
  · rw [rangeSize_one]; split <;> omega
  · refine ⟨.ref s.heap.objs.size, _, I.laid (t' := tk) (o := .lst (rngV n.toNat fun p => p)) hk (Nat.le_refl _) ⟨?_, acc'.toList, c', ?_, by simpa using hS⟩, rfl, q _ (I.hok.fresh (Nat.le_refl _))⟩
    · rw [rngV_len]
      exact Nat.le_trans (show n.toNat ≤ 100000 by omega) (by decide)
    · refine vals_of_get (by rw [rngV_len, Array.length_toList, hacc.1]) fun j x w hx hw => ?_
      have hw' : acc'[j]? = some w := by simpa using hw
      obtain ⟨tk', rfl⟩ := hacc.2 j w hw'
      have hj : j < n.toNat := by
        have := (Array.getElem?_eq_some_iff.mp hw').1
        rw [hacc.1] at this; exact this
      rw [rngV_get hj] at hx
      have hx' : V.int (j : Int) = x := Option.some.inj hx
      subst hx'
      exact ⟨tk', by rw [Int.mul_one, Int.zero_add]⟩
end
end L2
/-! the same rules with the fragment by name: within a comprehension -/
namespace L2
open PySem PySem.Spec PyProof.Rows
section
variable {X : Cx} {K : PySem.W.Frag}
theorem ix_listK (h : X.K = K := by rfl) : IxR X (rIxL K) := h ▸ ix_list
theorem ix_tupK (h : X.K = K := by rfl) : IxR X (rIxT K) := h ▸ ix_tup
def rLen (K : PySem.W.Frag) : List V → Hp → VK → Prop := fun xs H Q => ∃ p ys, xs = [.ref p] ∧ (SqL K H p ys ∨ SqT K H p ys) ∧ Q (.int ys.length) H
theorem call_len_seqK (h : X.K = K := by rfl) : CallR X (.builtin "len") (rLen K) := by
  subst h; exact call_len_seq
theorem op_in_seqK (h : X.K = K := by rfl) : OpR X (compareOp .In) (rIn K false) := h ▸ op_in_seq
theorem op_notIn_seqK (h : X.K = K := by rfl) : OpR X (compareOp .NotIn) (rIn K true) := h ▸ op_notIn_seq
def rListOf (K : PySem.W.Frag) : List V → Hp → VK → Prop := fun xs H Q => ∃ p ys, xs = [.ref p] ∧ (SqL K H p ys ∨ SqT K H p ys) ∧ ∀ l, H l = none → Q (.ref l) (upd H l (.lst ys))
theorem call_list_ofK (h : X.K = K := by rfl) : CallR X (.type "list") (rListOf K) := by
  subst h; exact call_list_of
end
end L2
namespace L2
open PySem PySem.Spec PyProof.Rows
/-- {k: v} -/
theorem pe_disp1 {X : Cx} {pos : Pos} {k v : Expr} {tk tv : TE} (hk : PE X k tk) (hv : PE X v tv) : PE X (.Dict [some k] [v] pos) (tDisp [(tk, tv)]) := pe_disp (pps_cons hk hv pps_nil) rfl rfl (by simp) (by show 1 ≤ 15; decide)
theorem iteD {c A B : Prop} [Decidable c] (hc : c) (h : A) : if decide c = true then A else B := by
  rw [if_pos (decide_eq_true hc)]; exact h
theorem iteDn {c A B : Prop} [Decidable c] (hc : ¬ c) (h : B) : if decide c = true then A else B := by
  rw [if_neg (by rw [decide_eq_false hc]; exact Bool.false_ne_true)]; exact h
/-- «c and u» that comes out false on each way -/
theorem and2 {c U A B : Prop} [Decidable c] (hB : B) (hU : c → B → U) : if decide c = true then U else (if false = true then A else B) := ite2 (fun h => hU (of_decide_eq_true h) hB) (fun _ => iteF hB)
theorem iteB {b : Bool} {A B : Prop} (e : b = false) (h : B) : if b = true then A else B := by
  rw [e, if_neg Bool.false_ne_true]; exact h
theorem iteBt {b : Bool} {A B : Prop} (e : b = true) (h : A) : if b = true then A else B := by
  rw [e, if_pos rfl]; exact h
end L2
/-! ### OWN EXTENSION: the library's sorting tree gives a sorted order, whatever is sorted -/
namespace SortP
open PySem PySem.W PyProof.Rows
/-- the tree, answered by lt; its questions stay below n -/
def okT (n : Nat) (lt : Nat → Nat → Bool) {α : Type} : KasT α → (α → Prop) → Prop
  | .ret a, Q => Q a
  | .ask i j k, Q => i < n ∧ j < n ∧ okT n lt (k (lt i j)) Q
section
variable {n : Nat} {lt : Nat → Nat → Bool}
theorem okT_mono {α : Type} {Q R : α → Prop} (h : ∀ a, Q a → R a) : ∀ t : KasT α, okT n lt t Q → okT n lt t R
  | .ret a, q => h a q
  | .ask i j k, ⟨a, b, q⟩ => ⟨a, b, okT_mono h (k (lt i j)) q⟩
theorem okT_bind {α β : Type} {f : α → KasT β} {Q : β → Prop} : ∀ t : KasT α, okT n lt t (fun a => okT n lt (f a) Q) → okT n lt (t.bind f) Q
  | .ret a, q => q
  | .ask i j k, ⟨a, b, q⟩ => ⟨a, b, okT_bind (k (lt i j)) q⟩
theorem okT_wp {α : Type} {cmp : Nat → Nat → (Bool → Shared → Prop) → Shared → Prop} {I : Shared → Prop} (hc : ∀ i j C s, i < n → j < n → I s → (∀ s', I s' → C (lt i j) s') → cmp i j C s) {Q : α → Prop} :
    ∀ (t : KasT α) (s : Shared), okT n lt t Q → I s → t.kasWp cmp (fun a s' => Q a ∧ I s') s
  | .ret a, s, q, i => ⟨q, i⟩
  | .ask i j k, s, ⟨a, b, q⟩, h => hc i j _ s a b h fun s' h' => okT_wp hc (k (lt i j)) s' q h'
abbrev at' (p : Array Nat) (i : Nat) : Nat := p.getD i 0
structure Ord (lt : Nat → Nat → Bool) : Prop where
  as : ∀ a b, lt a b = true → lt b a = false
  tr : ∀ a b c, lt b a = false → lt c b = false → lt c a = false
theorem Ord.rf (O : Ord lt) (a : Nat) : lt a a = false := by
  cases h : lt a a with
  | false => rfl
  | true => rw [O.as a a h] at h; cases h
structure G (n : Nat) (p : Array Nat) : Prop where
  sz : p.size = n
  pm : p.toList.Perm (List.range n)
theorem G.below {p : Array Nat} (g : G n p) {i : Nat} (h : i < n) : at' p i < n := by
  have hi : i < p.size := by rw [g.sz]; exact h
  have e : at' p i = p[i] := by simp [Array.getD, hi]
  have m : p[i] ∈ p.toList := by simp
  have := List.mem_range.mp (g.pm.mem_iff.mp m)
  rw [e]; exact this
/-- ascending, descending up to m -/
def S (lt : Nat → Nat → Bool) (p : Array Nat) (m : Nat) : Prop := ∀ i j, i ≤ j → j < m → lt (at' p j) (at' p i) = false
def D (lt : Nat → Nat → Bool) (p : Array Nat) (m : Nat) : Prop := ∀ i j, i ≤ j → j < m → lt (at' p i) (at' p j) = false
theorem S.snoc (O : Ord lt) {p : Array Nat} {m : Nat} (h : S lt p m) (h1 : 1 ≤ m) (e : lt (at' p m) (at' p (m - 1)) = false) : S lt p (m + 1) := fun i j hij hj => by
  by_cases hm : j = m
  · subst hm
    by_cases hi : i = j
    · subst hi; exact O.rf _
    · exact O.tr _ _ _ (h i (j - 1) (by omega) (by omega)) e
  · exact h i j hij (by omega)
theorem D.snoc (O : Ord lt) {p : Array Nat} {m : Nat} (h : D lt p m) (h1 : 1 ≤ m) (e : lt (at' p (m - 1)) (at' p m) = false) : D lt p (m + 1) := fun i j hij hj => by
  by_cases hm : j = m
  · subst hm
    by_cases hi : i = j
    · subst hi; exact O.rf _
    · exact O.tr _ _ _ e (h i (j - 1) (by omega) (by omega))
  · exact h i j hij (by omega)
theorem asc_ok (O : Ord lt) {p : Array Nat} (g : G n p) : ∀ (f m : Nat), 1 ≤ m → S lt p m → m + f ≤ n → okT n lt (kas_asc p f m) (fun r => m ≤ r ∧ r ≤ m + f ∧ S lt p r ∧ (r < m + f → lt (at' p r) (at' p (r - 1)) = true))
  | 0, m, _, s, _ => ⟨Nat.le_refl _, Nat.le_refl _, s, fun h => absurd h (Nat.lt_irrefl _)⟩
  | f + 1, m, h1, s, h2 => by
    refine ⟨g.below (by omega), g.below (by omega), ?_⟩
    cases e : lt (at' p m) (at' p (m - 1)) with
    | true => exact ⟨Nat.le_refl _, by omega, s, fun _ => e⟩
    | false => exact okT_mono (fun r q => ⟨by omega, by omega, q.2.2.1, fun h => q.2.2.2 (by omega)⟩) _ (asc_ok O g f (m + 1) (by omega) (s.snoc O h1 e) (by omega))
theorem rev_get {p : Array Nat} {i j : Nat} (hj : j ≤ p.size) (k : Nat) : at' (kas_rev p i j) k = if i ≤ k ∧ k < j then at' p (i + j - 1 - k) else at' p k := by
  have e := getElem?_mirror_all (xs := p) (i := i) hj k
  unfold at' kas_rev
  rw [Array.getD_eq_getD_getElem?, e]
  split <;> rw [Array.getD_eq_getD_getElem?]
theorem G.rev {p : Array Nat} (g : G n p) (i j : Nat) : G n (kas_rev p i j) := ⟨(mirror_size ..).trans g.sz, (Array.perm_iff_toList_perm.mp (mirror_perm p i j ((j - i) / 2))).trans g.pm⟩
def Eqv (lt : Nat → Nat → Bool) (a b : Nat) : Prop := lt a b = false ∧ lt b a = false
/-- turning round a stretch of alike ones changes nothing that is asked -/
theorem rev_same (O : Ord lt) {p : Array Nat} (g : G n p) {i j : Nat} (hj : j ≤ n) (h : ∀ k, i ≤ k → k < j → Eqv lt (at' p k) (at' p (j - 1))) (k : Nat) : Eqv lt (at' (kas_rev p i j) k) (at' p k) := by
  rw [rev_get (by rw [g.sz]; exact hj)]
  split
  · rename_i hk
    have a := h (i + j - 1 - k) (by omega) (by omega)
    have b := h k hk.1 hk.2
    exact ⟨O.tr _ _ _ b.2 a.1, O.tr _ _ _ a.2 b.1⟩
  · exact ⟨O.rf _, O.rf _⟩
theorem D.of_same (O : Ord lt) {p q : Array Nat} {m : Nat} (h : D lt p m) (e : ∀ k, Eqv lt (at' q k) (at' p k)) : D lt q m := fun i j hij hj =>
  O.tr _ _ _ (O.tr _ _ _ (e j).2 (h i j hij hj)) (e i).1
/-- the last q + 1 are alike -/
def Lst (lt : Nat → Nat → Bool) (p : Array Nat) (m q : Nat) : Prop := q < m ∧ ∀ i, m - (q + 1) ≤ i → i < m → Eqv lt (at' p i) (at' p (m - 1))
theorem lst_one (O : Ord lt) (p : Array Nat) {m : Nat} (h : 1 ≤ m) : Lst lt p m 0 := ⟨h, fun i h1 h2 => by
  have e : i = m - 1 := by omega
  rw [e]; exact ⟨O.rf _, O.rf _⟩⟩
theorem desc_ok (O : Ord lt) : ∀ (f : Nat) (p : Array Nat) (m q : Nat), G n p → 1 ≤ m → m + f ≤ n → D lt p m → Lst lt p m q →
    okT n lt (kas_desc f p m q) (fun r => G n r.1 ∧ m ≤ r.2.1 ∧ r.2.1 ≤ m + f ∧ D lt r.1 r.2.1 ∧ Lst lt r.1 r.2.1 r.2.2)
  | 0, p, m, q, g, _, _, d, l => ⟨g, Nat.le_refl _, Nat.le_refl _, d, l⟩
  | f + 1, p, m, q, g, h1, h2, d, l => by
    have wk : ∀ {p' : Array Nat} {q' : Nat}, okT n lt (kas_desc f p' (m + 1) q') (fun r => G n r.1 ∧ m + 1 ≤ r.2.1 ∧ r.2.1 ≤ m + 1 + f ∧ D lt r.1 r.2.1 ∧ Lst lt r.1 r.2.1 r.2.2) →
        okT n lt (kas_desc f p' (m + 1) q') (fun r => G n r.1 ∧ m ≤ r.2.1 ∧ r.2.1 ≤ m + (f + 1) ∧ D lt r.1 r.2.1 ∧ Lst lt r.1 r.2.1 r.2.2) := fun {p' q'} z =>
      okT_mono (fun r q => ⟨q.1, by omega, by omega, q.2.2.2.1, q.2.2.2.2⟩) _ z
    refine ⟨g.below (by omega), g.below (by omega), ?_⟩
    cases e : lt (at' p m) (at' p (m - 1)) with
    | true =>
      have e' := O.as _ _ e
      show okT n lt (if q > 0 then kas_desc f (kas_rev p (m - (q + 1)) m) (m + 1) 0 else kas_desc f p (m + 1) 0) _
      by_cases hq : q > 0
      · rw [if_pos hq]
        have same := rev_same O g (i := m - (q + 1)) (j := m) (by omega) fun k a b => l.2 k a b
        have em : at' (kas_rev p (m - (q + 1)) m) m = at' p m := by rw [rev_get (by rw [g.sz]; omega), if_neg (by omega)]
        refine wk (desc_ok O f _ (m + 1) 0 (g.rev _ _) (by omega) (by omega) ((d.of_same O same).snoc O h1 ?_) (lst_one O _ (by omega)))
        rw [em]
        exact O.tr _ _ _ e' (same (m - 1)).1
      · rw [if_neg hq]
        exact wk (desc_ok O f p (m + 1) 0 g (by omega) (by omega) (d.snoc O h1 e') (lst_one O _ (by omega)))
    | false =>
      refine ⟨g.below (by omega), g.below (by omega), ?_⟩
      cases e2 : lt (at' p (m - 1)) (at' p m) with
      | true => exact ⟨g, Nat.le_refl _, Nat.le_add_right _ _, d, l⟩
      | false =>
        refine wk (desc_ok O f p (m + 1) (q + 1) g (by omega) (by omega) (d.snoc O h1 e2) ⟨by have := l.1; omega, fun i a b => ?_⟩)
        show Eqv lt (at' p i) (at' p m)
        by_cases him : i = m
        · rw [him]; exact ⟨O.rf _, O.rf _⟩
        · have z := l.2 i (by omega) (by omega)
          exact ⟨O.tr _ _ _ e2 z.1, O.tr _ _ _ z.2 e⟩
theorem turn_ok {p : Array Nat} (g : G n p) {m : Nat} (hm : m ≤ n) (d : D lt p m) : S lt (kas_rev p 0 m) m := fun i j hij hj => by
  rw [rev_get (by rw [g.sz]; exact hm), rev_get (by rw [g.sz]; exact hm), if_pos (by omega), if_pos (by omega)]
  exact d (0 + m - 1 - j) (0 + m - 1 - i) (by omega) (by omega)
def R (n : Nat) (lt : Nat → Nat → Bool) (r : Nat × Array Nat) : Prop := G n r.2 ∧ 1 ≤ r.1 ∧ r.1 ≤ n ∧ S lt r.2 r.1
theorem tail_ok (O : Ord lt) {p : Array Nat} (g : G n p) {m : Nat} (h1 : 1 ≤ m) (hm : m ≤ n) (d : D lt p m) : okT n lt (kas_tail3 m n p) (R n lt) := by
  unfold kas_tail3
  refine okT_bind _ (okT_mono (fun r q => ?_) _ (asc_ok O (g.rev 0 m) (n - m) m h1 (turn_ok g hm d) (by omega)))
  exact ⟨g.rev 0 m, by omega, by omega, q.2.2.1⟩
theorem part_ok (O : Ord lt) {p : Array Nat} (g : G n p) {m : Nat} (h1 : 1 ≤ m) (hm : m + 1 ≤ n) (d : D lt p (m + 1)) : okT n lt (kas_descPart m n p) (R n lt) := by
  unfold kas_descPart
  refine okT_bind _ (okT_mono (fun r q => ?_) _ (desc_ok O (n - (m + 1)) p (m + 1) 0 g (by omega) (by omega) d (lst_one O _ (by omega))))
  obtain ⟨g', a, b, d', l⟩ := q
  by_cases hq : r.2.2 > 0
  · rw [if_pos hq]
    have same := rev_same O g' (i := r.2.1 - (r.2.2 + 1)) (j := r.2.1) (by omega) fun k a b => l.2 k a b
    exact tail_ok O (g'.rev _ _) (by omega) (by omega) (d'.of_same O same)
  · rw [if_neg hq]
    exact tail_ok O g' (by omega) (by omega) d'
theorem count_ok (O : Ord lt) {p : Array Nat} (g : G n p) (h1 : 1 ≤ n) : okT n lt (kas_count n p) (R n lt) := by
  unfold kas_count
  have s1 : S lt p 1 := fun i j hij hj => by
    have e : i = j := by omega
    rw [e]; exact O.rf _
  refine okT_bind _ (okT_mono (fun r q => ?_) _ (asc_ok O g (n - 1) 1 (Nat.le_refl _) s1 (by omega)))
  obtain ⟨a, b, s, e⟩ := q
  by_cases hn : (r == n) = true
  · rw [if_pos hn]
    exact ⟨g, a, by omega, s⟩
  · rw [if_neg hn]
    have hne : r ≠ n := fun z => hn (by rw [z]; exact beq_self_eq_true n)
    have el := O.as _ _ (e (by omega))
    by_cases hr : r > 1
    · rw [if_pos hr]
      refine ⟨g.below (by omega), g.below (by omega), ?_⟩
      cases c : lt (at' p 0) (at' p (r - 1)) with
      | true => exact ⟨g, a, by omega, s⟩
      | false =>
        have alike : ∀ k, k < r → lt (at' p k) (at' p (r - 1)) = false := fun k hk => O.tr _ _ _ c (s 0 k (by omega) hk)
        have same := rev_same O g (i := 0) (j := r) (by omega) fun k _ hk => ⟨alike k hk, s k (r - 1) (by omega) (by omega)⟩
        have dp : D lt p r := fun i j hij hj => O.tr _ _ _ (s j (r - 1) (by omega) (by omega)) (alike i (by omega))
        have em : at' (kas_rev p 0 r) r = at' p r := by rw [rev_get (by rw [g.sz]; omega), if_neg (by omega)]
        refine part_ok O (g.rev 0 r) a (by omega) ((dp.of_same O same).snoc O a ?_)
        rw [em]
        exact O.tr _ _ _ el (same (r - 1)).1
    · rw [if_neg hr]
      have e1 : r = 1 := by omega
      refine part_ok O g a (by omega) (D.snoc O (fun i j hij hj => ?_) a el)
      have e2 : i = j := by omega
      rw [e2]; exact O.rf _
theorem place_ok (O : Ord lt) {p : Array Nat} (g : G n p) {k : Nat} (hk : k < n) (s : S lt p k) : ∀ (f l r : Nat), l ≤ r → r ≤ k → r - l ≤ f → (∀ i, i < l → lt (at' p k) (at' p i) = false) → (∀ i, r ≤ i → i < k → lt (at' p i) (at' p k) = false) →
    okT n lt (kas_place p k f l r) (fun x => x ≤ k ∧ (∀ i, i < x → lt (at' p k) (at' p i) = false) ∧ ∀ i, x ≤ i → i < k → lt (at' p i) (at' p k) = false)
  | 0, l, r, h1, h2, h3, a, b => ⟨by omega, a, fun i hi hk => b i (by omega) hk⟩
  | f + 1, l, r, h1, h2, h3, a, b => by
    unfold kas_place
    by_cases hlr : l ≥ r
    · rw [if_pos hlr]
      exact ⟨by omega, a, fun i hi hk => b i (by omega) hk⟩
    · rw [if_neg hlr]
      refine ⟨g.below hk, g.below (by omega), ?_⟩
      cases e : lt (at' p k) (at' p ((l + r) / 2)) with
      | true =>
        refine place_ok O g hk s f l ((l + r) / 2) (by omega) (by omega) (by omega) a fun i hi hik => ?_
        exact O.tr _ _ _ (O.as _ _ e) (s ((l + r) / 2) i hi hik)
      | false =>
        refine place_ok O g hk s f ((l + r) / 2 + 1) r (by omega) h2 (by omega) (fun i hi => ?_) b
        exact O.tr _ _ _ (s i ((l + r) / 2) (by omega) (by omega)) e
theorem bub_get {p : Array Nat} {k d : Nat} (hk : k < p.size) (hd : d ≤ k) (j : Nat) : at' (bubble p k d) j = if j = k - d then at' p k else if k - d < j ∧ j ≤ k then at' p (j - 1) else at' p j := by
  have e := getElem?_bubble (xs := p) hk d hd j
  have a : ∀ (q : Array Nat) (i : Nat), at' q i = (q[i]?).getD 0 := fun q i => Array.getD_eq_getD_getElem? ..
  rw [a (bubble p k d) j, e, a p k, a p (j - 1), a p j]
  split
  · rfl
  · split <;> rfl
theorem G.bub {p : Array Nat} (g : G n p) (k d : Nat) : G n (bubble p k d) := ⟨(bubble_size ..).trans g.sz, (Array.perm_iff_toList_perm.mp (bubble_perm p k d)).trans g.pm⟩
theorem bin_ok (O : Ord lt) : ∀ (f : Nat) (p : Array Nat) (k : Nat), G n p → k + f ≤ n → S lt p k → okT n lt (kas_bin f p k) (fun q => G n q ∧ S lt q (k + f))
  | 0, p, k, g, _, s => ⟨g, s⟩
  | f + 1, p, k, g, h, s => by
    unfold kas_bin
    refine okT_bind _ (okT_mono (fun x q => ?_) _ (place_ok O g (by omega) s k 0 k (Nat.zero_le _) (Nat.le_refl _) (by omega) (fun i hi => absurd hi (Nat.not_lt_zero _)) (fun i h1 h2 => absurd h2 (by omega))))
    obtain ⟨hx, a, b⟩ := q
    have hd : k - (k - x) = x := by omega
    have s' : S lt (bubble p k (k - x)) (k + 1) := fun i j hij hj => by
      rw [bub_get (by rw [g.sz]; omega) (by omega), bub_get (by rw [g.sz]; omega) (by omega), hd]
      by_cases j1 : j = x
      · rw [if_pos j1]
        by_cases i1 : i = x
        · rw [if_pos i1]; exact O.rf _
        · rw [if_neg i1, if_neg (by omega)]; exact a i (by omega)
      · rw [if_neg j1]
        by_cases j2 : x < j ∧ j ≤ k
        · rw [if_pos j2]
          by_cases i1 : i = x
          · rw [if_pos i1]; exact b (j - 1) (by omega) (by omega)
          · rw [if_neg i1]
            by_cases i2 : x < i ∧ i ≤ k
            · rw [if_pos i2]; exact s (i - 1) (j - 1) (by omega) (by omega)
            · rw [if_neg i2]; exact s i (j - 1) (by omega) (by omega)
        · rw [if_neg j2, if_neg (by omega), if_neg (by omega)]
          exact s i j hij (by omega)
    have := bin_ok O f (bubble p k (k - x)) (k + 1) (g.bub _ _) (by omega) s'
    rw [show k + (f + 1) = k + 1 + f by omega]
    exact this
theorem sort_ok (O : Ord lt) (h1 : 1 ≤ n) : okT n lt (kas_sort n) (fun p => G n p ∧ S lt p n) := by
  unfold kas_sort
  have g : G n (List.toArray (List.range n)) := ⟨by simp, by simp⟩
  refine okT_bind _ (okT_mono (fun r q => ?_) _ (count_ok O g h1))
  obtain ⟨g', a, b, s⟩ := q
  by_cases hr : r.1 < n
  · rw [if_pos hr]
    have hm : max r.1 1 = r.1 := by omega
    rw [hm]
    have := bin_ok O (n - r.1) r.2 r.1 g' (by omega) s
    rw [show r.1 + (n - r.1) = n by omega] at this
    exact this
  · rw [if_neg hr]
    have e : r.1 = n := by omega
    rw [e] at s
    exact ⟨g', s⟩
end
end SortP
/-! ### OWN EXTENSION: sorted(xs), xs a list of tuples of ints -/
namespace L2
open PySem PySem.Spec PyProof.Rows
theorem ObjOk.ex {P : Program} {w : World} {H : Hp} {h : Heap} {a : Addr} {o : HO} (x : ObjOk P w H h a o) : ∃ ob, h.get? a = some ob := by
  cases o with
  | lst xs => obtain ⟨_, _, _, _, e⟩ := x; exact ⟨_, e⟩
  | tup xs => obtain ⟨_, _, _, _, o, e, _⟩ := x; exact ⟨_, e⟩
  | dK kvs => obtain ⟨_, _, _, _, o, _, _, e, _⟩ := x; exact ⟨_, e⟩
  | dT kvs => obtain ⟨_, _, _, _, o, _, _, e, _⟩ := x; exact ⟨_, e⟩
  | set S n => obtain ⟨o, _, _, _, e, _⟩ := x; exact ⟨_, e⟩
  | ins C dx fs => obtain ⟨_, _, _, e, _⟩ := x; exact ⟨_, e⟩
  | own y => exact x
  | xd fs => obtain ⟨_, ⟨_, _, _, e, _⟩, _⟩ := x; exact ⟨_, e⟩
  | rng lo hi => obtain ⟨_, _, _, e⟩ := x; exact ⟨_, e⟩
  | frz ob u => obtain ⟨e, _⟩ := x; exact ⟨_, e⟩
  | tbl ps => exact ⟨_, (show h.get? a = some _ from x)⟩
  | met f y => exact ⟨_, (show h.get? a = some _ from x)⟩
  | ext φ => obtain ⟨_, e, _⟩ := x; exact e
theorem keepN {g h h' : Heap} {L : Addr} {m : Str → Option Value} {l : List (Addr × Obj)} (k : ∀ b o, g.get? b = some o → h.get? b = some o) (F : Fr g L h' m) (N : News g L h' l) (hs : ∀ p ∈ allNews g h L, p ∈ l) : ∀ b q, b ≠ L → h.get? b = some q → h'.get? b = some q := fun b q hb e => by
  cases z : g.get? b with
  | some u =>
    have := k b u z
    rw [e] at this; cases this
    exact F.keep b _ z
  | none => exact (N (b, q) (hs _ (mem_allNews hb z e))).1
/-- a rule of the library over the frame and all that was made: one new object at D -/
theorem Inv.newN {X : Cx} {pins : List (Addr × Obj)} {σ : St} {H : Hp} {s : Shared} {h' : Heap} {t' : Nat} {m : Str → Option Value} {D : Addr} {o : Obj} {ho : HO} (I : Inv X pins σ H s) (F : Fr X.base X.env.locals s.heap m) (F' : Fr X.base X.env.locals h' m)
    (N' : News X.base X.env.locals h' ((D, o) :: allNews X.base s.heap X.env.locals)) (hD : s.heap.get? D = none) (new : ObjOk X.prog X.w (upd H D ho) h' D ho) : Inv X pins σ (upd H D ho) { s with heap := h', toks := t' } := by
  have keep := keepN I.bk F' N' fun p hp => List.mem_cons_of_mem _ hp
  have neD : ∀ b q, s.heap.get? b = some q → b ≠ D := fun b q e z => by rw [z, hD] at e; cases e
  have neH : ∀ b u, H b = some u → b ≠ D := fun b u e => by
    obtain ⟨q, eq⟩ := (I.hok b u e).ex
    exact neD b q eq
  have neL : ∀ b u, H b = some u → b ≠ X.env.locals := fun b u e z => by rw [z, I.free] at e; cases e
  refine I.step (g' := s.gens) (d' := s.drawn) (ch := []) (fun b z => absurd z List.not_mem_nil) (fun b q hb _ _ e _ => keep b q hb e) (fun b q hb _ _ e _ => ⟨q.slots, keep b q hb e⟩) (fun b q _ e n => by rw [upd_ne (neD b q e)]; exact n)
    (fun b q _ e => ?_) (fun b xs e => by rw [upd_ne (neH b _ e)]; exact e) (fun b q u e => by rw [upd_ne (neH b _ e)]; exact e) (fun b ps e => ⟨#[], by rw [upd_ne (neH b _ e), e]; simp⟩) (fun m' hm => ?_) (fun b u e => ?_) I.bare
  · by_cases hb : b = X.env.locals
    · obtain ⟨o', _, _, ho', _⟩ := F'.ns
      exact ⟨o', by rw [hb]; exact ho'⟩
    · exact ⟨q, keep b q hb e⟩
  · have em : m' = m := funext fun x => hm.agree F.ns x
    rw [em]; exact F'.ns
  · by_cases hb : b = D
    · subst hb
      rw [upd_same] at e; cases e
      exact new
    · rw [upd_ne hb] at e
      refine (I.hok b u e).stay (fun c v hc q => keep c v ?_ q) (fun c r => by rw [upd_ne (neH c _ r)]; exact r) fun c xs r => by rw [upd_ne (neH c _ r)]; exact r
      rcases hc with z | z
      · rw [z]; exact neL b u e
      · exact neL c _ z
end L2
namespace SortP
open PySem PySem.W PyProof.Rows
open HT
theorem lex_as : ∀ a b : List Int, lexLt a b = true → lexLt b a = false
  | [], [], h => by cases h
  | [], _ :: _, _ => rfl
  | _ :: _, [], h => by cases h
  | x :: xs, y :: ys, h => by
    rw [lexLt_cons] at h ⊢
    by_cases e : x = y
    · rw [if_pos e] at h
      rw [if_pos e.symm]; exact lex_as xs ys h
    · rw [if_neg e] at h
      rw [if_neg (fun z => e z.symm)]
      have := of_decide_eq_true h
      exact decide_eq_false (by omega)
theorem lex_tr : ∀ a b c : List Int, lexLt b a = false → lexLt c b = false → lexLt c a = false
  | [], _, [], _, _ => rfl
  | [], [], _ :: _, _, _ => rfl
  | [], _ :: _, _ :: _, _, _ => rfl
  | _ :: _, [], [], h, _ => by cases h
  | _ :: _, [], _ :: _, h, _ => by cases h
  | _ :: _, _ :: _, [], _, h => by cases h
  | x :: xs, y :: ys, z :: zs, h1, h2 => by
    rw [lexLt_cons] at h1 h2 ⊢
    by_cases e1 : y = x
    · rw [if_pos e1] at h1
      by_cases e2 : z = y
      · rw [if_pos e2] at h2
        rw [if_pos (e2.trans e1)]; exact lex_tr xs ys zs h1 h2
      · rw [if_neg e2] at h2
        have := of_decide_eq_false h2
        rw [if_neg (by omega)]
        exact decide_eq_false (by omega)
    · rw [if_neg e1] at h1
      have q1 := of_decide_eq_false h1
      by_cases e2 : z = y
      · rw [if_neg (by omega)]
        exact decide_eq_false (by omega)
      · rw [if_neg e2] at h2
        have q2 := of_decide_eq_false h2
        rw [if_neg (by omega)]
        exact decide_eq_false (by omega)
theorem lex_ord (ts : List (List Int)) : Ord fun i j => lexLt (ts.getD i []) (ts.getD j []) := ⟨fun _ _ h => lex_as _ _ h, fun _ _ _ h1 h2 => lex_tr _ _ _ h1 h2⟩
section
variable {prog : Program} {w : World} {A : Around} {E : Value → Shared → Prop} {s : Shared}
theorem lex_walk {b : Bool} {Q : Bool → Shared → Prop} : ∀ {us vs : List Value} {ns ms : List Int} (i : Nat) (fin : Bool), IntsAre us ns → IntsAre vs ms → fin = decide (us.length < vs.length) → Q (lexLt ns ms) s → KatLex prog w A b fin Q (us.zip vs) i s
  | _, _, _, _, i, fin, .nil, .nil, hf, q => by
    refine kat_nil ?_
    rw [hf]; exact q
  | _, _, _, _, i, fin, .nil, .cons .., hf, q => by
    refine kat_nil ?_
    rw [hf, decide_eq_true (by rw [List.length_nil, List.length_cons]; omega)]; exact q
  | _, _, _, _, i, fin, .cons .., .nil, hf, q => by
    refine kat_nil ?_
    rw [hf, decide_eq_false (by rw [List.length_nil]; omega)]; exact q
  | _, _, _, _, i, fin, .cons x _ h1, .cons y _ h2, hf, q => by
    rw [List.zip_cons_cons]
    refine kat_cons (wpAny_eqBool_int (kat_go (fun e => kat_yes ?_) (fun e => kat_no ?_)))
    · have e' : x = y := eq_of_beq e
      rw [lexLt_cons, if_pos e'] at q
      refine lex_walk (i + 1) fin h1 h2 ?_ q
      rw [hf, List.length_cons, List.length_cons]
      exact decide_eq_decide.mpr (by omega)
    · have e' : ¬ x = y := fun z => by rw [z, beq_self_eq_true] at e; cases e
      rw [lexLt_cons, if_neg e'] at q
      cases b && i == 0 with
      | true => exact oneLt_int q
      | false => exact kat_one _ _ (lt_int q)
/-- a list of one thing is sorted, whatever the thing -/
theorem sort_one {a : Addr} {v : Value} {n : Nat} {P : PySem.Fin → Shared → Prop} (ho : s.heap.get? a = some (seqObj "list" [v].toArray n)) (h : P (.done (.ret .none)) { s with heap := sortedHeap s.heap a [v] [v].toArray }) :
    wpAny (model prog w) A (Builtin.«list.sort» ⟨[.ref a], []⟩) P E s := by
  have lo : a < s.heap.objs.size := Heap.lt_size ho
  have le1 : ∀ k : Nat, k ≤ 1 → k ≤ sizeLine := fun k hk => Nat.le_trans hk (by decide)
  rw [list_sort_plain]; refine wpAny_bind (listItems_at ho rfl (wpAny_bind (listUpdate_at ho rfl ?_ (le1 _ (Nat.le_refl _)) (Nat.zero_le _))))
  obtain ⟨e1, o1⟩ : ∃ k, (s.heap.update a (Obj.mapSeq fun _ => (#[] : Array Value))).get? a = some (seqObj "list" #[] k) := ⟨_, get?_update_seq ho fun _ => #[]⟩
  refine wpAny_bind (seqEpoch_at o1 rfl (wpAny_bind (wpAny_newTuple (wpAny_bind (wpAny_newList (wpAny_holding ?_) (Nat.zero_le _))) (le1 _ (Nat.le_refl _)))))
  have o6 : (((s.heap.update a (Obj.mapSeq fun _ => (#[] : Array Value))).push (seqObj "tuple" [v].toArray 0)).push (seqObj "list" #[] 0)).get? a = some (seqObj "list" #[] e1) := Heap.get?_push_of_some _ (Heap.get?_push_of_some _ o1)
  show wpAny (model prog w) A _ P E { s with heap := ((s.heap.update a (Obj.mapSeq fun _ => (#[] : Array Value))).push (seqObj "tuple" [v].toArray 0)).push (seqObj "list" #[] 0) }
  dsimp only
  have two : [v].toArray.size < 2 := by show 1 < 2; decide
  rw [if_pos two, if_pos two]; refine wpAny_bind (wpAny_pure ?_)
  rw [StateT.run_pure]; refine wpAny_bind (wpAny_pure ?_)
  have eo : Array.map (fun x : Keyed => x.snd) (arrOf (SortSt.mk' general' ([v].toArray.zip [v].toArray) #[] 7 none)) = [v].toArray := by
    show Array.map (fun x : Keyed => x.snd) ([v].toArray.zip [v].toArray) = _
    simp
  dsimp only; rw [eo]; refine wpAny_bind (seqEpoch_at o6 rfl (wpAny_bind (listUpdate_at o6 rfl ?_ (Nat.zero_le _) (Nat.le_succ_of_le (le1 _ (Nat.le_refl _))))))
  simp only [bne_self_eq_false, Bool.false_eq_true, if_false]; exact wpAny_pure h
theorem sorted_one {l : Addr} {v : Value} {Q : Value → Shared → Prop} (hl : s.heap.IsList l [v].toArray) (h : Q (.ref (s.heap.objs.size + 1)) { s with heap := sortedAll s.heap [v] [v].toArray }) :
    wpAny (model prog w) A (call (.builtin "sorted") [.ref l]) Q E s := by
  have le1 : ∀ k : Nat, k ≤ 1 → k ≤ sizeLine := fun k hk => Nat.le_trans hk (by decide)
  apply Calls.call_function_entry kind_sorted plain_sorted entry_sorted (args_sorted1 _)
  unfold Builtin.«sorted»; refine wpAny_bind (m := checkCount "sorted" 1 1 _) (wpAny_pure (wpAny_bind (collect_list hl (wpAny_bind (wpAny_newList ?_ (le1 _ (Nat.le_refl _)))) (le1 _ (Nat.le_refl _)))))
  have z : ((s.heap.push (seqObj "list" #[] 0)).update s.heap.objs.size (Obj.mapSeq (· ++ [v].toArray))).objs.size = s.heap.objs.size + 1 := by rw [Heap.size_update, size_push']
  have oL : (((s.heap.push (seqObj "list" #[] 0)).update s.heap.objs.size (Obj.mapSeq (· ++ [v].toArray))).push (seqObj "list" [v].toArray 0)).get? (s.heap.objs.size + 1) = some (seqObj "list" [v].toArray 0) := by rw [← z]; exact Heap.get?_push_size _ rfl
  show wpAny _ _ _ _ _ { s with heap := ((s.heap.push (seqObj "list" #[] 0)).update s.heap.objs.size (Obj.mapSeq (· ++ [v].toArray))).push (seqObj "list" [v].toArray 0) }
  rw [z]; exact wpAny_bind (wpAny_holding (wpAny_call_entry slot_list_sort ⟨_, oL, rfl⟩ entry_list_sort (sort_one oL ⟨_, rfl, wpAny_pure ⟨_, rfl, h⟩⟩) (args_list_sort _)))
end
end SortP
namespace SortP
open PySem PySem.W PyProof.Rows HT
/-- the tree asked at a state -/
theorem okT_go {n : Nat} {lt : Nat → Nat → Bool} {α : Type} {cmp : Nat → Nat → (Bool → Shared → Prop) → Shared → Prop} {s : Shared} (hc : ∀ i j C, i < n → j < n → C (lt i j) s → cmp i j C s) {Q : α → Prop} {R : α → Shared → Prop} (hR : ∀ a, Q a → R a s) :
    ∀ (t : KasT α), okT n lt t Q → t.kasWp cmp R s
  | .ret a, q => hR a q
  | .ask i j k, ⟨a, b, q⟩ => hc i j _ a b (okT_go hc hR (k (lt i j)) q)
end SortP
namespace L2
open PySem PySem.Spec PyProof.Rows
/-- tuples of ints -/
def TI2 (H : Hp) (r : Addr) (t : List Int) : Prop := H r = some (.tup (t.map V.int))
theorem vals_refs : ∀ {rs : List Addr} {us : List Value}, Vals (rs.map V.ref) us → us = rs.map Value.ref
  | [], _, r => by cases r; rfl
  | x :: xs, _, r => by
    cases r with
    | cons a b =>
      rw [vals_refs b]
      cases a
      rfl
theorem refs_vals : ∀ rs : List Addr, Vals (rs.map V.ref) (rs.map Value.ref)
  | [] => .nil
  | _ :: r => .cons rfl (refs_vals r)
section
variable {X : Cx}
def rSortT : List V → Hp → VK → Prop := fun xs H Q => ∃ (l : Addr) (rs : List Addr) (ts : List (List Int)), xs = [.ref l] ∧ H l = some (.lst (rs.map V.ref)) ∧ Paired (fun r t => TI2 H r t) rs ts ∧ (∀ t ∈ ts, t ≠ []) ∧ ts.length < 64 ∧
  ∀ (D : Addr) (rs' : List Addr) (ts' : List (List Int)), H D = none → rs'.Perm rs → Paired (fun r t => TI2 H r t) rs' ts' → ts'.Perm ts → ts'.Pairwise (fun a b => HT.lexLt b a = false) → Q (.ref D) (upd H D (.lst (rs'.map V.ref)))
theorem tup_at {pins : List (Addr × Obj)} {σ : St} {H : Hp} {s : Shared} (I : Inv X pins σ H s) {r : Addr} {t : List Int} (h : TI2 H r t) : ∃ (o : Obj) (its : List Value) (n : Nat), s.heap.get? r = some o ∧ o.cls = .type "tuple" ∧ o.data = .seq its.toArray n ∧ IntsAre its t ∧ r ≠ X.env.locals := by
  obtain ⟨its, rv, ⟨o, ho, hc, n, hd⟩, _⟩ := I.tuple (SqT.of h)
  refine ⟨o, its, n, ho, hc, hd, intsAre_of rv, fun e => ?_⟩
  have h' : H r = some (.tup (t.map V.int)) := h
  rw [e, I.free] at h'; cases h'
theorem tups_at {h' : Heap} {H : Hp} : ∀ {rs : List Addr} {ts : List (List Int)}, Paired (fun r t => TI2 H r t) rs ts → (∀ t ∈ ts, t ≠ []) →
    (∀ r t, TI2 H r t → ∃ (o : Obj) (its : List Value) (n : Nat), h'.get? r = some o ∧ o.cls = .type "tuple" ∧ o.data = .seq its.toArray n ∧ IntsAre its t) →
    ∃ fs : List Value, PySem.W.KatTups h' (rs.map Value.ref) fs ∧ fs.length = rs.length ∧ ∀ v ∈ fs, ∃ (i : Int) (t : Tok), v = .int i t
  | _, _, .nil, _, _ => ⟨[], trivial, rfl, fun v hv => absurd hv List.not_mem_nil⟩
  | _, _, .cons (a := r) (b := t) h p, ne, hx => by
    obtain ⟨fs, k, l, q⟩ := tups_at p (fun t ht => ne t (List.mem_cons_of_mem _ ht)) hx
    obtain ⟨o, its, n, ho, hc, hd, hi⟩ := hx r t h
    cases hi with
    | nil => exact absurd rfl (ne _ (List.mem_cons_self ..))
    | cons i tk hi =>
      refine ⟨.int i tk :: fs, .cons ho hc hd (by simp) k, by rw [List.length_cons, List.length_cons, l], fun v hv => ?_⟩
      rcases List.mem_cons.mp hv with e | e
      · exact ⟨i, tk, e⟩
      · exact q v e
end
end L2
namespace L2
open PySem PySem.Spec PyProof.Rows
section
variable {X : Cx}
theorem perm_getD {α : Type} (d : α) (xs : List α) {p : List Nat} (h : p.Perm (List.range xs.length)) : (p.map fun i => xs.getD i d).Perm xs := by
  have e : (List.range xs.length).map (fun i => xs.getD i d) = xs := by
    apply List.ext_getElem?
    intro i
    rw [List.getElem?_map]
    by_cases hi : i < xs.length
    · rw [List.getElem?_range hi, List.getElem?_eq_getElem hi]
      simp [hi]
    · rw [List.getElem?_eq_none (by rw [List.length_range]; omega), List.getElem?_eq_none (by omega)]; rfl
  exact (h.map _).trans (by rw [e])
theorem paired_getD {H : Hp} {rs : List Addr} {ts : List (List Int)} (hp : Paired (fun r t => TI2 H r t) rs ts) : ∀ {p : List Nat}, (∀ i ∈ p, i < ts.length) → Paired (fun r t => TI2 H r t) (p.map fun i => rs.getD i 0) (p.map fun i => ts.getD i [])
  | [], _ => .nil
  | i :: p, h => by
    refine .cons ?_ (paired_getD hp fun j hj => h j (List.mem_cons_of_mem _ hj))
    have hi := h i (List.mem_cons_self ..)
    have hi' : i < rs.length := by rw [hp.length]; exact hi
    obtain ⟨t, ht, q⟩ := pairedGetL hp (List.getElem?_eq_getElem hi')
    have e1 : rs.getD i 0 = rs[i] := by simp [hi']
    have e2 : ts.getD i [] = t := by rw [List.getD_eq_getElem?_getD, ht]; rfl
    show TI2 H (rs.getD i 0) (ts.getD i [])
    rw [e1, e2]; exact q
theorem call_sortedT : CallR X (.builtin "sorted") rSortT := by
  intro pins s σ H xs us Q I r h
  obtain ⟨l, rs, ts, rfl, hl, hp, ne, h64, q⟩ := h
  obtain ⟨u, rfl, ru⟩ := vals1 r
  cases ru
  obtain ⟨its, rv, pl, hz⟩ := I.list (SqL.of hl)
  obtain rfl := vals_refs rv
  have hlen := hp.length
  -- one or none: the list as it is
  have short : ∀ out : Array Value, out = (rs.map Value.ref).toArray → rs.length < 2 → EP X pins σ Q (.ref (s.heap.objs.size + 1)) { s with heap := sortedAll s.heap (rs.map Value.ref) out } := fun out eo h2 => by
    subst eo
    obtain ⟨e, ee⟩ := sortedAll_at s.heap (rs.map Value.ref) (rs.map Value.ref).toArray
    refine ⟨.ref (s.heap.objs.size + 1), _, I.laid (t' := s.toks) (o := .lst (rs.map V.ref)) (fun b o z => sortedAll_old z) (Nat.le_succ _) ⟨hz, rs.map Value.ref, e, refs_vals rs, ee⟩, rfl, q _ rs ts (I.hok.fresh (Nat.le_succ _)) (List.Perm.refl _) hp (List.Perm.refl _) ?_⟩
    match ts, hlen with
    | [], _ => exact .nil
    | [t], _ => exact List.pairwise_singleton _ _
    | _ :: _ :: _, z => rw [List.length_cons, List.length_cons] at z; omega
  by_cases h2 : rs.length < 2
  · match rs, h2, short, pl with
    | [], h2, short, pl =>
      refine sorted_ints (vs := []) (ns := []) pl.isList .nil (by decide) fun out ns' hi hperm _ => ?_
      have e : ns' = [] := List.length_eq_zero_iff.mp hperm.length_eq
      subst e
      have eo : out = #[] := by
        have := IntsAre.length hi
        exact Array.eq_empty_of_size_eq_zero (by simpa using this)
      exact short out eo h2
    | [x], h2, short, pl => exact SortP.sorted_one pl.isList (short _ rfl h2)
    | _ :: _ :: _, h2, _, _ => rw [List.length_cons, List.length_cons] at h2; omega
  · obtain ⟨m, F⟩ := I.fr
    have n2 : 2 ≤ (rs.map Value.ref).length := by rw [List.length_map]; omega
    have n64 : (rs.map Value.ref).length < 64 := by rw [List.length_map]; omega
    refine PySem.W.kat_sorted F news_all pl.isList n2 n64 fun D e1 h' F1 N1 lo => ?_
    have keep := keepN I.bk F1 N1 fun p hp => List.mem_cons_of_mem _ hp
    have tup : ∀ r t, TI2 H r t → ∃ (o : Obj) (its : List Value) (n : Nat), h'.get? r = some o ∧ o.cls = .type "tuple" ∧ o.data = .seq its.toArray n ∧ IntsAre its t := fun r t z => by
      obtain ⟨o, its, n, a1, a2, a3, a4, a5⟩ := tup_at I z
      exact ⟨o, its, n, keep r o a5 a1, a2, a3, a4⟩
    obtain ⟨fs, kt, lf, hf⟩ := tups_at hp ne tup
    have hDn : s.heap.get? D = none := by
      obtain ⟨_, d2, d3⟩ := N1 (D, _) (List.mem_cons_self ..)
      cases z : s.heap.get? D with
      | none => rfl
      | some o => exact absurd (lo _ (mem_allNews d2 d3 z)) (Nat.lt_irrefl _)
    have hHD : H D = none := by
      cases z : H D with
      | none => rfl
      | some u =>
        obtain ⟨ob, eo⟩ := (I.hok D u z).ex
        rw [hDn] at eo; cases eo
    refine PySem.W.kat_kind (T := .type "int") kt (by omega) (fun v hv => ?_) (by decide) ?_
    · obtain ⟨i, t, rfl⟩ := hf v hv
      exact PySem.W.Looks.of_pure rfl
    have at' : ∀ i, i < rs.length → (rs.map Value.ref).getD i Value.none = .ref (rs.getD i 0) := fun i hi => by
      rw [List.getD_eq_getElem?_getD, List.getElem?_map, List.getElem?_eq_getElem hi]
      simp [hi]
    refine SortP.okT_go (n := rs.length) (lt := fun i j => HT.lexLt (ts.getD i []) (ts.getD j [])) (fun i j C hi hj hC => ?_) (fun p hq => ?_) _ (by
      have := SortP.sort_ok (n := rs.length) (SortP.lex_ord ts) (by omega)
      rw [List.length_map]; exact this)
    · unfold PySem.W.kas_ask
      rw [at' i hi, at' j hj]
      have tk : ∀ k, k < rs.length → TI2 H (rs.getD k 0) (ts.getD k []) := fun k hk => by
        obtain ⟨t, ht, z⟩ := pairedGetL hp (List.getElem?_eq_getElem hk)
        have e1 : rs.getD k 0 = rs[k] := by simp [hk]
        have e2 : ts.getD k [] = t := by rw [List.getD_eq_getElem?_getD, ht]; rfl
        rw [e1, e2]; exact z
      obtain ⟨o, its, n, a1, _, a3, a4⟩ := tup _ _ (tk i hi)
      obtain ⟨o', its', n', b1, _, b3, b4⟩ := tup _ _ (tk j hj)
      refine PySem.W.kat_lt (s := { s with heap := h' }) a1 a3 b1 b3 ?_
      refine SortP.lex_walk 0 _ (by simpa using a4) (by simpa using b4) (by simp) hC
    · obtain ⟨g, srt⟩ := hq
      have inr : ∀ i ∈ p.toList, i < ts.length := fun i hi => by
        have := List.mem_range.mp (g.pm.mem_iff.mp hi)
        omega
      have out : (p.toList.map fun i => (rs.map Value.ref).getD i Value.none) = (p.toList.map fun i => rs.getD i 0).map Value.ref := by
        rw [List.map_map]
        exact List.map_congr_left fun i hi => at' i (by have := inr i hi; omega)
      rw [out]
      refine PySem.W.KasFin.intro (s := { s with heap := h' }) F1 N1 (.head fun q hq => Nat.ne_of_lt (lo q hq)) fun h2 c F2 N2 => ?_
      have plen : (p.toList.map fun i => rs.getD i 0).length ≤ sizeLine := by
        rw [List.length_map, Array.length_toList, g.sz]
        exact Nat.le_trans (show rs.length ≤ 64 by omega) (by decide)
      refine ⟨.ref D, _, I.newN (t' := s.toks) (ho := .lst ((p.toList.map fun i => rs.getD i 0).map V.ref)) F F2 N2 hDn ⟨by rw [List.length_map]; exact plen, _, c, refs_vals _, (N2 _ (List.mem_cons_self ..)).1⟩, rfl, ?_⟩
      refine q D _ (p.toList.map fun i => ts.getD i []) hHD (perm_getD 0 rs g.pm) (paired_getD hp inr) (perm_getD [] ts (by rw [← hlen]; exact g.pm)) ?_
      rw [List.pairwise_map, List.pairwise_iff_getElem]
      intro i j hi hj hij
      have hj' : j < p.size := by simpa using hj
      have hi' : i < p.size := by simpa using hi
      have := srt i j (by omega) (by rw [← g.sz]; exact hj')
      have e1 : p.toList[i] = SortP.at' p i := by simp [Array.getD, hi']
      have e2 : p.toList[j] = SortP.at' p j := by simp [Array.getD, hj']
      rw [e1, e2]; exact this
end
end L2
/-! ### OWN EXTENSION: sorted() of a list of ints and of a dict with int keys; range(a, b, 2) -/
namespace L2
open PySem PySem.Spec PyProof.Rows
theorem vals_intsA : ∀ {us : List Value} {ns : List Int}, IntsAre us ns → Vals (ns.map V.int) us
  | _, _, .nil => .nil
  | _, _, .cons n t h => .cons ⟨t, rfl⟩ (vals_intsA h)
section
variable {X : Cx}
theorem sort_lands {pins : List (Addr × Obj)} {σ : St} {H : Hp} {s : Shared} {vs : List Value} {ns ns' : List Int} {out : Array Value} {t' : Nat} (I : Inv X pins σ H s) (hi : IntsAre out.toList ns') (hl : ns'.length ≤ sizeLine) :
    Inv X pins σ (upd H s.heap.objs.size (.lst (ns'.map V.int))) { s with heap := sortedHeap (s.heap.push (seqObj "list" vs.toArray 0)) s.heap.objs.size vs out, toks := t' } := by
  obtain ⟨e, ee⟩ := sortedHeap_at (out := out) (show (s.heap.push (seqObj "list" vs.toArray 0)).get? s.heap.objs.size = some (seqObj "list" vs.toArray 0) from Heap.get?_push_size _ rfl)
  refine I.laid (o := .lst (ns'.map V.int)) (fun b o z => ?_) (Nat.le_refl _) ⟨by rw [List.length_map]; exact hl, out.toList, e, vals_intsA hi, by simpa using ee⟩
  have lt := Heap.lt_size z
  rw [sortedHeap_old (Nat.ne_of_lt lt) (by rw [size_push']; exact Nat.lt_succ_of_lt lt)]
  exact Heap.get?_push_of_some _ z
def rSortI (K : PySem.W.Frag) : List V → Hp → VK → Prop := fun xs H Q => ∃ (l : Addr) (ns : List Int), xs = [.ref l] ∧ SqL K H l (ns.map V.int) ∧ ns.length < 64 ∧
  ∀ (D : Addr) (ns' : List Int), H D = none → ns'.Perm ns → ns'.Pairwise (· ≤ ·) → Q (.ref D) (upd H D (.lst (ns'.map V.int)))
theorem call_sortedI : CallR X (.builtin "sorted") (rSortI X.K) := by
  intro pins s σ H xs us Q I r h
  obtain ⟨l, ns, rfl, hl, h64, q⟩ := h
  obtain ⟨u, rfl, ru⟩ := vals1 r
  cases ru
  obtain ⟨its, rv, pl, hz⟩ := I.list hl
  have hI := intsAre_of rv
  have hn : its.length = ns.length := IntsAre.length hI
  refine sorted_ints pl.isList hI (by omega) fun out ns' hi hperm hs => ?_
  obtain ⟨e, ee⟩ := sortedAll_at s.heap its out
  have hl2 : ns'.length ≤ sizeLine := Nat.le_trans (show ns'.length ≤ 64 by rw [hperm.length_eq]; omega) (by decide)
  exact ⟨.ref (s.heap.objs.size + 1), _, I.laid (t' := s.toks) (o := .lst (ns'.map V.int)) (fun b o z => sortedAll_old z) (Nat.le_succ _) ⟨by rw [List.length_map]; exact hl2, out.toList, e, vals_intsA hi, by simpa using ee⟩, rfl, q _ ns' (I.hok.fresh (Nat.le_succ _)) hperm hs⟩
def rSortK : List V → Hp → VK → Prop := fun xs H Q => ∃ (d : Addr) (kvs : List (Key × V)) (ns : List Int), xs = [.ref d] ∧ H d = some (.dK kvs) ∧ kvs.map Prod.fst = ns.map Sum.inl ∧ kvs.length < 64 ∧
  ∀ (D : Addr) (ns' : List Int), H D = none → ns'.Perm ns → ns'.Pairwise (· ≤ ·) → Q (.ref D) (upd H D (.lst (ns'.map V.int)))
theorem kv_key : ∀ {kvs : List (Key × V)} {vs : List (Key × Value)}, KV kvs vs → vs.map Prod.fst = kvs.map Prod.fst
  | _, _, .nil => rfl
  | _, _, .cons q h => by rw [List.map_cons, List.map_cons, kv_key h, q.1]
theorem mix_int {P : Program} {w : World} {i : Int} {u : Value} (h : (mixKind P w).is (.inl i) u = true) : RelV (.int i) u := by
  rcases keyIs_shape (k := .inl i) (v := u) h with ⟨j, t, e, rfl⟩ | ⟨x, t, e, _⟩
  · cases e; exact ⟨t, rfl⟩
  · cases e
theorem call_sortedK (hc : X.calm = true) : CallR X (.builtin "sorted") rSortK := by
  intro pins s σ H xs us Q I r h
  obtain ⟨d, kvs, ns, rfl, hd, hk, h64, q⟩ := h
  obtain ⟨u, rfl, ru⟩ := vals1 r
  cases ru
  obtain ⟨z, lo, vs, rel, dd⟩ := dk_of I.hok hd
  obtain ⟨ep, hat⟩ := dd.dictAt
  have lvs : vs.length = kvs.length := rel.length.symm
  have z64 : ∀ k : Nat, k < 64 → k ≤ sizeLine := fun k hk => Nat.le_trans (show k ≤ 64 by omega) (by decide)
  refine Calls.call_function_entry kind_sorted plain_sorted entry_sorted (args_sorted1 _) ?_
  unfold Builtin.«sorted»
  refine wpAny_bind (m := checkCount "sorted" 1 1 _) (wpAny_pure ?_)
  refine wpAny_bind (PySem.W.kdu_collect (A := X.A.in1) (PySem.W.kdl_dict (knd := mixKind X.prog X.w) (kvs := vs) (ep := ep) lo) (I.ok.hd hc) hat (by rw [lvs]; exact z64 _ h64) fun h' tk acc hkeep hacc => ?_)
  have hl : acc.toList.length = kvs.length := by rw [Array.length_toList, hacc.1, lvs]
  have hI : IntsAre acc.toList ns := by
    refine intsAre_of (vals_of_get ?_ fun j x w hx hw => ?_)
    · have := congrArg List.length hk
      rw [List.length_map, List.length_map] at this
      rw [List.length_map, hl, this]
    · obtain ⟨k, y, e1, e2⟩ := hacc.2 j w (by simpa using hw)
      have e3 : (vs.map Prod.fst)[j]? = some k := by rw [List.getElem?_map, e1]; rfl
      rw [kv_key rel, hk, List.getElem?_map] at e3
      rw [List.getElem?_map] at hx
      cases hns : ns[j]? with
      | none => rw [hns] at hx; cases hx
      | some i =>
        rw [hns] at e3 hx
        cases e3
        cases hx
        exact mix_int e2
  have I1 : Inv X pins σ H { s with heap := h', toks := tk } := I.kept hkeep
  refine wpAny_bind (wpAny_newList ?_ (by rw [hl]; exact z64 _ h64))
  have hoL : (h'.push (seqObj "list" acc.toList.toArray 0)).get? h'.objs.size = some (seqObj "list" acc.toList.toArray 0) := Heap.get?_push_size _ rfl
  refine wpAny_bind (wpAny_holding (wpAny_call_entry slot_list_sort ⟨_, hoL, rfl⟩ entry_list_sort (list_sort_tree hoL hI (by omega) fun out ns' hi hperm hs => ⟨_, rfl, ?_⟩) (args_list_sort _)))
  refine wpAny_pure ⟨_, rfl, ?_⟩
  have hl2 : ns'.length ≤ sizeLine := z64 _ (by rw [hperm.length_eq, ← IntsAre.length hI, hl]; exact h64)
  exact ⟨.ref h'.objs.size, _, sort_lands (ns := ns) (t' := tk) I1 hi hl2, rfl, q _ ns' (I1.hok.fresh (Nat.le_refl _)) hperm hs⟩
end
/-- lo, lo + c, .. (n of them) -/
def Itrc (lo c : Int) (n : Nat) : It := ⟨fun i _ => i < n, fun i H x H' => H' = H ∧ x = .int (lo + i * c), fun i _ => n ≤ i⟩
theorem turn_rangec {P : Program} {w : World} {K : PySem.W.Frag} {tg : Expr} (it : Addr) (lo c : Int) (n : Nat) : Turn P w K tg (Itrc lo c n) [it] it (fun i h => IsRangeIter h it (lo + (i : Nat) * c) ((n : Int) - (i : Nat)) c) where
  mem := by simp
  obj := fun i h st b hb => by
    have e : b = it := by simpa using hb
    subst e
    exact ⟨_, st, fun v z => by
      have z' : Data.fields _ = Data.cell v := z
      cases z'⟩
  keep := fun i h h' st k => k it (by simp) _ st
  item := by
    intro X hP hw hK hc i pins s σ H E I hf st hg
    subst hP hw hK
    obtain ⟨f0, f1, f2, f3, f4, f5⟩ := hf it (by simp)
    have W := Walks.range (prog := X.prog) (w := X.w) (I.ok.hd hc) it lo c n
    refine W.item i s _ _ hg st fun v h' tk hv st' kk => ?_
    obtain ⟨t, rfl⟩ := hv
    have I1 : Inv X pins σ H { s with heap := h', toks := tk } := I.turned (fun b o hb e => kk b o (by simpa using hb) e) f0 f1 f3 f4 f5
    exact ⟨_, rfl, go_of (s := { s with heap := h', toks := tk }) (n := "range_iterator") st' rfl rfl (by decide) ⟨.int (lo + i * c), H, I1, ⟨t, rfl⟩, ⟨rfl, rfl⟩, st', fun b hb => (hf b hb).1⟩⟩
  done := by
    intro X hP hw hK hc i pins s σ H E I hf st hg
    subst hP hw hK
    obtain ⟨f0, f1, f2, f3, f4, f5⟩ := hf it (by simp)
    exact wpAny_pyNext_range_end (I.ok.hd hc) st (by have : n ≤ i := hg; omega) fun h' eb => ⟨rfl, I.turned (t' := s.toks) (fun b o hb e => eb b o hb e) f0 f1 f3 f4 f5⟩
  self := fun _ _ _ _ _ st h => wpAny_pyIter_rangeiter st h
section
variable {X : Cx} {tg : Expr}
/-- range(0, 4, 2), as the laws write it -/
def iRng042 (ta : TA) : TI := fun σ H R => ta σ H fun vs H1 => vs = [.int 0, .int 4, .int 2] ∧ R (Itrc 0 2 2) H1
theorem pi_range042 {a b c : Expr} {ta : TA} {p pos : Pos} (hg : Gl X "range") (hm : X.mg "range" = none) (ha : PA X [a, b, c] ta) (hs : starEach [a, b, c] X.env = [(false, eval a X.env), (false, eval b X.env), (false, eval c X.env)] := by rfl)
    (hs2 : starEach [b, c] X.env = [(false, eval b X.env), (false, eval c X.env)] := by rfl) :
    PI X tg (.Call (.Name "range" p) [a, b, c] [] pos) (iRng042 ta) := by
  intro pins s σ H R I h
  refine Call_ (ld_blt I hg hm boot_range (PyProof.Rows.callWith_type1 (thn (ha pos pins s σ H _ I h) fun us s1 ⟨vs, H1, I1, r1, q1⟩ => ?_) (by rw [hs, hs2]) (by rw [hs2]; rfl)))
  obtain ⟨e, q⟩ := q1
  subst e
  cases r1 with
  | cons r rr =>
    cases rr with
    | cons r' rr =>
      cases rr with
      | cons r'' rr =>
        cases rr
        obtain ⟨t, rfl⟩ := r
        obtain ⟨t', rfl⟩ := r'
        obtain ⟨t'', rfl⟩ := r''
        refine call_range_3 (by decide) ?_ (Or.inl (PyProof.noPylong_of_log2 (by decide +kernel)))
        refine wpAny_pyIter_range (IsRange.new ..) (by decide +kernel) ?_
        have I2 : Inv X pins σ H1 { s1 with heap := s1.heap.push { cls := .type "range", data := .fields #[.int 0 t, .int 4 t', .int 2 t''] }, toks := s1.toks } := I1.kept fun b o e => Heap.get?_push_of_some _ e
        refine ⟨(s1.heap.push { cls := .type "range", data := .fields #[.int 0 t, .int 4 t', .int 2 t''] }).objs.size, [(s1.heap.push { cls := .type "range", data := .fields #[.int 0 t, .int 4 t', .int 2 t''] }).objs.size], _, _, H1, rfl,
          I2.kept (t' := s1.toks) fun b o e => Heap.get?_push_of_some _ e, turn_rangec _ 0 2 2, ?_, fun b hb => ?_, q⟩
        · exact Heap.get?_push_size _ rfl
        · have e : b = (s1.heap.push { cls := .type "range", data := .fields #[.int 0 t, .int 4 t', .int 2 t''] }).objs.size := by simpa using hb
          subst e
          exact I2.fpOk (Nat.le_refl _) (I2.hok.fresh (Nat.le_refl _))
theorem for_rangec {lo c : Int} {n : Nat} {g : TG} {tb : TS} {D : Ends} {σ : St} {H : Hp} (Pv : Nat → St → Hp → Prop) (h0 : Pv 0 σ H)
    (hs : ∀ i σ H, i < n → Pv i σ H → g (.int (lo + i * c)) σ H fun σ2 H2 => tb { D with nx := Pv (i + 1), ct := Pv (i + 1), bk := D.nx } σ2 H2) (hd : ∀ σ H, Pv n σ H → D.nx σ H) :
    ∃ W : Nat → Nat → St → Hp → Prop, (∃ m, W 0 m σ H) ∧ ∀ i m σ H, W i m σ H →
      ((Itrc lo c n).stop i H ∧ D.nx σ H) ∨ ((Itrc lo c n).go i H ∧ ∃ N : St → Hp → Prop, (∀ σ' H', N σ' H' → ∃ m', m' < m ∧ W (i + 1) m' σ' H') ∧ ∀ x H', (Itrc lo c n).yld i H x H' → g x σ H' fun σ2 H2 => tb { D with nx := N, ct := N, bk := D.nx } σ2 H2) := by
  refine ⟨fun i m σ H => m = n - i ∧ i ≤ n ∧ Pv i σ H, ⟨n, by simp, Nat.zero_le _, h0⟩, ?_⟩
  rintro i m σ H ⟨rfl, hi, p⟩
  by_cases hlt : i < n
  · refine .inr ⟨hlt, Pv (i + 1), fun σ' H' p' => ⟨n - (i + 1), by omega, rfl, hlt, p'⟩, fun x H' y => ?_⟩
    obtain ⟨e, y⟩ := y
    subst e y
    exact hs i σ _ hlt p
  · have e : i = n := by omega
    subst e
    exact .inl ⟨Nat.le_refl _, hd σ H p⟩
end
end L2
/-! ### parts of a net: the mathematics -/
namespace K3
/-- a way of links leads from p to q -/
inductive Conn (L : List (Int × Int)) : Int → Int → Prop
  | refl (p : Int) : Conn L p p
  | link {p q : Int} : (p, q) ∈ L → Conn L p q
  | symm {p q : Int} : Conn L p q → Conn L q p
  | trans {p q r : Int} : Conn L p q → Conn L q r → Conn L p r
theorem Conn.mono {L L' : List (Int × Int)} (h : ∀ x ∈ L, x ∈ L') {p q : Int} (c : Conn L p q) : Conn L' p q := by
  induction c with
  | refl p => exact .refl p
  | link m => exact .link (h _ m)
  | symm _ ih => exact .symm ih
  | trans _ _ ih1 ih2 => exact .trans ih1 ih2
theorem Conn.resp {L : List (Int × Int)} {α : Type} (f : Int → α) (h : ∀ p q, (p, q) ∈ L → f p = f q) {p q : Int} (c : Conn L p q) : f p = f q := by
  induction c with
  | refl p => rfl
  | link m => exact h _ _ m
  | symm _ ih => exact ih.symm
  | trans _ _ ih1 ih2 => exact ih1.trans ih2
theorem Conn.respP {L : List (Int × Int)} (f : Int → Prop) (h : ∀ p q, (p, q) ∈ L → (f p ↔ f q)) {p q : Int} (c : Conn L p q) : f p ↔ f q := by
  induction c with
  | refl p => exact Iff.rfl
  | link m => exact h _ _ m
  | symm _ ih => exact ih.symm
  | trans _ _ ih1 ih2 => exact ih1.trans ih2
/-- links between places of the net -/
def Rng (n : Int) (L : List (Int × Int)) : Prop := ∀ l ∈ L, 0 ≤ l.1 ∧ l.1 < n ∧ 0 ≤ l.2 ∧ l.2 < n
/-- each place bears the least place of its part -/
structure Lab (n : Int) (L : List (Int × Int)) (f : Int → Int) : Prop where
  rng : Rng n L
  le : ∀ p, 0 ≤ p → p < n → 0 ≤ f p ∧ f p ≤ p
  idem : ∀ p, 0 ≤ p → p < n → f (f p) = f p
  iff : ∀ p q, 0 ≤ p → p < n → 0 ≤ q → q < n → (f p = f q ↔ Conn L p q)
theorem Lab.start (n : Int) : Lab n [] (fun p => p) := by
  refine ⟨fun l h => absurd h (List.not_mem_nil), fun p h0 h1 => ⟨h0, Int.le_refl _⟩, fun p _ _ => rfl, fun p q _ _ _ _ => ⟨fun h => ?_, fun c => ?_⟩⟩
  · have : p = q := h
    rw [this]; exact .refl _
  · exact c.resp (fun p => p) fun _ _ m => absurd m (List.not_mem_nil)
theorem Lab.join {n : Int} {L : List (Int × Int)} {f : Int → Int} (I : Lab n L f) {u v hi lo : Int} (u0 : 0 ≤ u) (u1 : u < n) (v0 : 0 ≤ v) (v1 : v < n) (hl : lo ≤ hi) (he : (hi = f u ∧ lo = f v) ∨ (hi = f v ∧ lo = f u)) :
    Lab n (L ++ [(u, v)]) (fun x => if f x = hi then lo else f x) := by
  have fu := I.le u u0 u1
  have fv := I.le v v0 v1
  have iu := I.idem u u0 u1
  have iv := I.idem v v0 v1
  have old : ∀ {p q : Int}, Conn L p q → Conn (L ++ [(u, v)]) p q := fun c => c.mono fun x hx => List.mem_append_left _ hx
  have new : Conn (L ++ [(u, v)]) u v := .link (List.mem_append_right _ (List.mem_singleton.mpr rfl))
  have flo : f lo = lo := by rcases he with ⟨_, e⟩ | ⟨_, e⟩ <;> rw [e] <;> assumption
  refine ⟨fun l h => ?_, fun p h0 h1 => ?_, fun p h0 h1 => ?_, fun p q p0 p1 q0 q1 => ⟨fun h => ?_, fun c => ?_⟩⟩
  · rcases List.mem_append.mp h with h | h
    · exact I.rng l h
    · have : l = (u, v) := List.mem_singleton.mp h
      subst this; exact ⟨u0, u1, v0, v1⟩
  · have := I.le p h0 h1
    show 0 ≤ (if f p = hi then lo else f p) ∧ (if f p = hi then lo else f p) ≤ p
    split <;> omega
  · have hp := I.le p h0 h1
    have ip := I.idem p h0 h1
    show (if f (if f p = hi then lo else f p) = hi then lo else f (if f p = hi then lo else f p)) = if f p = hi then lo else f p
    by_cases e : f p = hi
    · rw [if_pos e, flo]
      split <;> rfl
    · rw [if_neg e, ip, if_neg e]
  · -- a common mark: a way
    have both : ∀ x, 0 ≤ x → x < n → (f x = hi ∨ f x = lo) → Conn (L ++ [(u, v)]) x u := fun x x0 x1 e => by
      have : f x = f u ∨ f x = f v := by omega
      rcases this with e | e
      · exact old ((I.iff x u x0 x1 u0 u1).mp e)
      · exact (old ((I.iff x v x0 x1 v0 v1).mp e)).trans new.symm
    have h' : (if f p = hi then lo else f p) = if f q = hi then lo else f q := h
    by_cases ep : f p = hi
    · rw [if_pos ep] at h'
      by_cases eq : f q = hi
      · exact (both p p0 p1 (.inl ep)).trans (both q q0 q1 (.inl eq)).symm
      · rw [if_neg eq] at h'
        exact (both p p0 p1 (.inl ep)).trans (both q q0 q1 (.inr h'.symm)).symm
    · rw [if_neg ep] at h'
      by_cases eq : f q = hi
      · rw [if_pos eq] at h'
        exact (both p p0 p1 (.inr h')).trans (both q q0 q1 (.inl eq)).symm
      · rw [if_neg eq] at h'
        exact old ((I.iff p q p0 p1 q0 q1).mp h')
  · -- a way: a common mark
    refine c.resp (fun x => if f x = hi then lo else f x) fun a b m => ?_
    show (if f a = hi then lo else f a) = if f b = hi then lo else f b
    rcases List.mem_append.mp m with m | m
    · obtain ⟨a0, a1, b0, b1⟩ := I.rng _ m
      rw [(I.iff a b a0 a1 b0 b1).mpr (.link m)]
    · have e : (a, b) = (u, v) := List.mem_singleton.mp m
      have ea : a = u := congrArg Prod.fst e
      have eb : b = v := congrArg Prod.snd e
      subst ea eb
      split <;> split <;> omega
/-- the marks after one link -/
def stepF (f : Int → Int) (u v : Int) : Int → Int :=
  fun x => if f x = (if f v > f u then f v else f u) then (if f v < f u then f v else f u) else f x
theorem stepF_same {f : Int → Int} {u v : Int} (h : f u = f v) : stepF f u v = f := by
  funext x
  unfold stepF
  rw [h]
  simp only [gt_iff_lt, Int.lt_irrefl, if_false]
  split
  · rename_i e; exact e.symm
  · rfl
theorem Lab.step {n : Int} {L : List (Int × Int)} {f : Int → Int} (I : Lab n L f) {u v : Int} (u0 : 0 ≤ u) (u1 : u < n) (v0 : 0 ≤ v) (v1 : v < n) : Lab n (L ++ [(u, v)]) (stepF f u v) := by
  refine I.join u0 u1 v0 v1 ?_ ?_
  · split <;> split <;> omega
  · split <;> split <;> omega
/-- the links of places left -/
def kept (b : Int → Bool) (L : List (Int × Int)) : List (Int × Int) := L.filter fun l => b l.1 && b l.2
def turnF (b : Int → Bool) (f : Int → Int) (l : Int × Int) : Int → Int := if (b l.1 && b l.2) = true then stepF f l.1 l.2 else f
def labF (b : Int → Bool) (L : List (Int × Int)) : Int → Int := L.foldl (turnF b) (fun p => p)
theorem labF_snoc (b : Int → Bool) (L : List (Int × Int)) (l : Int × Int) : labF b (L ++ [l]) = turnF b (labF b L) l := by
  unfold labF; rw [List.foldl_append]; rfl
theorem lab_gen {n : Int} (b : Int → Bool) : ∀ (L L₀ : List (Int × Int)) (f : Int → Int), Rng n L → Lab n (kept b L₀) f → Lab n (kept b (L₀ ++ L)) (L.foldl (turnF b) f)
  | [], L₀, f, _, I => by rw [List.append_nil]; exact I
  | l :: r, L₀, f, h, I => by
    have e : L₀ ++ l :: r = (L₀ ++ [l]) ++ r := by rw [List.append_assoc]; rfl
    rw [e, List.foldl_cons]
    refine lab_gen b r (L₀ ++ [l]) _ (fun x hx => h x (List.mem_cons_of_mem _ hx)) ?_
    obtain ⟨a0, a1, b0, b1⟩ := h l (List.mem_cons_self ..)
    unfold kept turnF
    rw [List.filter_append, List.filter_cons, List.filter_nil]
    split
    · exact I.step a0 a1 b0 b1
    · rw [List.append_nil]; exact I
theorem labF_lab {n : Int} (b : Int → Bool) {L : List (Int × Int)} (h : Rng n L) : Lab n (kept b L) (labF b L) := by
  have := lab_gen b L [] (fun p => p) h (Lab.start n)
  exact this
theorem Lab.unique {n : Int} {L L' : List (Int × Int)} {f g : Int → Int} (I : Lab n L f) (J : Lab n L' g) (h : ∀ p q, Conn L p q ↔ Conn L' p q) {p : Int} (p0 : 0 ≤ p) (p1 : p < n) : f p = g p := by
  have a := I.le p p0 p1
  have b := J.le p p0 p1
  have c1 : Conn L (f p) p := (I.iff (f p) p a.1 (by omega) p0 p1).mp (I.idem p p0 p1)
  have c2 : Conn L' (g p) p := (J.iff (g p) p b.1 (by omega) p0 p1).mp (J.idem p p0 p1)
  have e1 : g (f p) = g p := (J.iff (f p) p a.1 (by omega) p0 p1).mpr ((h _ _).mp c1)
  have e2 : f (g p) = f p := (I.iff (g p) p b.1 (by omega) p0 p1).mpr ((h _ _).mpr c2)
  have l1 := J.le (f p) a.1 (by omega)
  have l2 := I.le (g p) b.1 (by omega)
  omega
/-- a place taken out has no links left: it stands alone -/
theorem Lab.alone {n : Int} {L : List (Int × Int)} {b : Int → Bool} {f : Int → Int} (I : Lab n (kept b L) f) {p q : Int} (p0 : 0 ≤ p) (p1 : p < n) (q0 : 0 ≤ q) (q1 : q < n) (hb : b p = false) (e : f q = f p) : q = p := by
  have c := (I.iff q p q0 q1 p0 p1).mp e
  have r := c.respP (fun x => x = p) fun a d m => by
    have := (List.mem_filter.mp m).2
    have h2 : b a = true ∧ b d = true := by simpa using this
    constructor
    · intro e; rw [e, hb] at h2; exact Bool.noConfusion h2.1
    · intro e; rw [e, hb] at h2; exact Bool.noConfusion h2.2
  exact r.mpr rfl
theorem Lab.out {n : Int} {L : List (Int × Int)} {b : Int → Bool} {f : Int → Int} (I : Lab n (kept b L) f) {p : Int} (p0 : 0 ≤ p) (p1 : p < n) (hb : b p = false) : f p = p := by
  have a := I.le p p0 p1
  exact I.alone p0 p1 a.1 (by omega) hb (I.idem p p0 p1)
theorem Lab.left {n : Int} {L : List (Int × Int)} {b : Int → Bool} {f : Int → Int} (I : Lab n (kept b L) f) {p : Int} (p0 : 0 ≤ p) (p1 : p < n) (hb : b p = true) : b (f p) = true := by
  have a := I.le p p0 p1
  cases h : b (f p) with
  | true => rfl
  | false =>
    have e := I.alone a.1 (by omega) p0 p1 h (I.idem p p0 p1).symm
    rw [← e, hb] at h
    exact Bool.noConfusion h
end K3
/-! ### parts of a net: lists, heaps -/
namespace K3
open PySem L2
/-- the places that are left -/
def outB (os : List Int) : Int → Bool := fun p => !decide (p ∈ os)
/-- the places that bear the mark i -/
def memb (n : Nat) (f : Int → Int) (i : Int) : List Int := ((List.range n).filter fun j : Nat => decide (f (j : Int) = i)).map fun j : Nat => (j : Int)
def isHead (b : Int → Bool) (f : Int → Int) (i : Nat) : Bool := b (i : Int) && decide (f (i : Int) = (i : Int))
def partsOf (n : Nat) (b : Int → Bool) (f : Int → Int) : List (List Int) := ((List.range n).filter (isHead b f)).map fun i : Nat => memb n f (i : Int)
theorem filter_snoc {p : Nat → Bool} {i : Nat} : (List.range (i + 1)).filter p = (List.range i).filter p ++ if p i = true then [i] else [] := by
  rw [List.range_succ, List.filter_append, List.filter_cons, List.filter_nil]
theorem memb_len (n : Nat) (f : Int → Int) (i : Int) : (memb n f i).length ≤ n := by
  unfold memb
  rw [List.length_map]
  exact Nat.le_trans (List.length_filter_le ..) (by rw [List.length_range]; exact Nat.le_refl _)
theorem mem_memb {n : Nat} {f : Int → Int} {i x : Int} : x ∈ memb n f i ↔ (0 ≤ x ∧ x < n) ∧ f x = i := by
  unfold memb
  rw [List.mem_map]
  constructor
  · rintro ⟨j, hj, rfl⟩
    obtain ⟨h1, h2⟩ := List.mem_filter.mp hj
    have := List.mem_range.mp h1
    exact ⟨by omega, of_decide_eq_true h2⟩
  · rintro ⟨⟨h0, h1⟩, h2⟩
    have e : ((x.toNat : Nat) : Int) = x := by omega
    exact ⟨x.toNat, List.mem_filter.mpr ⟨List.mem_range.mpr (by omega), by rw [e]; exact decide_eq_true h2⟩, e⟩
theorem heads_len (n : Nat) (b : Int → Bool) (f : Int → Int) (i : Nat) (h : i ≤ n) : (((List.range i).filter (isHead b f)).map fun i : Nat => memb n f (i : Int)).length ≤ n := by
  rw [List.length_map]
  exact Nat.le_trans (List.length_filter_le ..) (by rw [List.length_range]; exact h)
theorem rngB_set {n : Nat} {b : Int → Bool} {p : Int} (h0 : 0 ≤ p) : (rngB n b).set p.toNat (.bl false) = rngB n (fun x => if x = p then false else b x) := by
  apply List.ext_getElem?
  intro i
  rw [List.getElem?_set, rngB_len]
  by_cases hi : i < n
  · rw [rngB_get hi, rngB_get hi]
    by_cases e : p.toNat = i
    · rw [if_pos e, if_pos (by omega)]
      have : (i : Int) = p := by omega
      rw [if_pos this]
    · rw [if_neg e]
      have : ¬ (i : Int) = p := by omega
      rw [if_neg this]
  · have e1 : (rngB n b)[i]? = none := List.getElem?_eq_none (by rw [rngB_len]; omega)
    have e2 : (rngB n (fun x => if x = p then false else b x))[i]? = none := List.getElem?_eq_none (by rw [rngB_len]; omega)
    rw [e1, e2]
    split
    · rw [if_neg (by omega)]
    · rfl
theorem ixN_ok {n : Nat} {p : Int} (h0 : 0 ≤ p) (h1 : p < n) : ixN n p = some p.toNat := by unfold ixN; rw [if_pos h0, if_pos h1]
theorem outB_nil : outB [] = fun _ => true := by funext p; simp [outB]
theorem outB_snoc (os : List Int) (q : Int) : (fun x => if x = q then false else outB os x) = outB (os ++ [q]) := by
  funext x
  unfold outB
  by_cases h : x = q
  · rw [if_pos h]; simp [h]
  · rw [if_neg h]; simp [h]
/-- a list of ints; a list of lists of ints, all of them new since H₀ -/
def IL (H : Hp) (l : Addr) (xs : List Int) : Prop := H l = some (.lst (xs.map V.int))
def LL (H₀ H : Hp) (l : Addr) (pss : List (List Int)) : Prop := H₀ l = none ∧ ∃ rs : List Addr, H l = some (.lst (rs.map V.ref)) ∧ Paired (fun r ps => H₀ r = none ∧ IL H r ps) rs pss
theorem LL.same {H₀ H H' : Hp} {l : Addr} {pss : List (List Int)} (e : Same H H') (h : LL H₀ H l pss) : LL H₀ H' l pss := by
  obtain ⟨a, rs, b, c⟩ := h
  exact ⟨a, rs, e _ _ b, Paired.mapP c fun _ _ q => ⟨q.1, e _ _ q.2⟩⟩
theorem map_int_inj {xs ys : List Int} (h : xs.map V.int = ys.map V.int) : xs = ys := by
  induction xs generalizing ys with
  | nil => cases ys with
    | nil => rfl
    | cons y r => simp at h
  | cons x r ih => cases ys with
    | nil => simp at h
    | cons y s =>
      simp only [List.map_cons, List.cons.injEq, V.int.injEq] at h
      rw [h.1, ih h.2]
theorem rngV_snoc (i : Nat) (f : Int → Int) : rngV (i + 1) f = rngV i f ++ [.int (f (i : Int))] := by
  unfold rngV
  rw [List.range_succ, List.map_append]; rfl
theorem rngB_snoc (i : Nat) (f : Int → Bool) : rngB (i + 1) f = rngB i f ++ [.bl (f (i : Int))] := by
  unfold rngB
  rw [List.range_succ, List.map_append]; rfl
theorem LL.nil {H₀ H : Hp} {l : Addr} (h0 : H₀ l = none) (h : H l = some (.lst [])) : LL H₀ H l [] := ⟨h0, [], h, .nil⟩
/-- one more list behind -/
theorem LL.snoc {H₀ H : Hp} {l r : Addr} {pss : List (List Int)} {ps : List Int} {rs : List Addr} (h0 : H₀ l = none) (hp : Paired (fun x ps => H₀ x = none ∧ IL H x ps) rs pss)
    (r0 : H₀ r = none) (hr : IL H r ps) (hne : ∀ x ∈ rs, x ≠ l) (hrl : r ≠ l) : LL H₀ (upd H l (.lst (rs.map V.ref ++ [V.ref r]))) l (pss ++ [ps]) := by
  refine ⟨h0, rs ++ [r], by rw [upd_same, List.map_append]; rfl, ?_⟩
  generalize HO.lst (rs.map V.ref ++ [V.ref r]) = o
  have q : Paired (fun x ps => H₀ x = none ∧ IL (upd H l o) x ps) rs pss := by
    induction hp with
    | nil => exact .nil
    | cons h _ ih =>
      refine .cons ⟨h.1, ?_⟩ (ih fun x hx => hne x (List.mem_cons_of_mem _ hx))
      show upd H l _ _ = _
      rw [upd_ne (hne _ (List.mem_cons_self ..))]
      exact h.2
  refine pairedApp q (.cons ⟨r0, ?_⟩ .nil)
  show upd H l _ _ = _
  rw [upd_ne hrl]
  exact hr
theorem lst_apart {H H₀ : Hp} {l x : Addr} {rs : List Addr} {pss : List (List Int)} (hl : H l = some (.lst (rs.map V.ref))) (hp : Paired (fun x ps => H₀ x = none ∧ IL H x ps) rs pss) (hx : x ∈ rs) : x ≠ l := by
  obtain ⟨k, hk⟩ := List.mem_iff_getElem?.mp hx
  obtain ⟨ps, _, z⟩ := pairedGetL hp hk
  intro e
  rw [e] at z
  have z2 : H l = some (.lst (ps.map V.int)) := z.2
  rw [hl] at z2
  have z3 := HO.lst.inj (Option.some.inj z2)
  have hk' : (rs.map V.ref)[k]? = some (.ref x) := by rw [List.getElem?_map, hk]; rfl
  rw [z3, List.getElem?_map] at hk'
  cases hq : ps[k]? with
  | none => rw [hq] at hk'; cases hk'
  | some y => rw [hq] at hk'; cases hk'
theorem memb_snoc (n i : Nat) (f : Int → Int) (h : Int) : memb (i + 1) f h = memb i f h ++ if f (i : Int) = h then [(i : Int)] else [] := by
  unfold memb
  rw [filter_snoc, List.map_append]
  by_cases e : f (i : Int) = h
  · rw [if_pos (decide_eq_true e), if_pos e]; rfl
  · rw [if_neg (by simp [e]), if_neg e]; rfl
end K3
namespace K3
open PySem L2
theorem at0 (p : Int) (r : List Int) : atI ((p :: r).map V.int) 0 = some (.int p) := atI_nat (xs := (p :: r).map V.int) (j := 0) rfl
end K3
/-! ### lists of ints and lists of lists as data; due parts -/
namespace K3
open PySem L2
def di (xs : List Int) : PyData := .list (xs.map .int)
def dl (pss : List (List Int)) : PyData := .list (pss.map di)
theorem di_lay : ∀ xs : List Int, PyData.canLayAll0 (xs.map .int) = true
  | [] => rfl
  | x :: r => by simp [PyData.canLayAll0, di_lay r, PyData.canLay0]
theorem di_depth : ∀ xs : List Int, PyData.depthAll (xs.map .int) ≤ 8
  | [] => by simp [PyData.depthAll]
  | x :: r => by
    have := di_depth r
    simp only [List.map_cons, PyData.depthAll, PyData.depth]
    omega
theorem dl_lay : ∀ pss : List (List Int), PyData.canLayAll0 (pss.map di) = true
  | [] => rfl
  | x :: r => by simp [PyData.canLayAll0, dl_lay r, PyData.canLay0, di, di_lay x]
theorem dl_depth : ∀ pss : List (List Int), PyData.depthAll (pss.map di) ≤ 16
  | [] => by simp [PyData.depthAll]
  | x :: r => by
    have := dl_depth r
    have := di_depth x
    simp only [List.map_cons, PyData.depthAll, PyData.depth, di]
    omega
theorem di_shaped (xs : List Int) : SeqAt.shaped (di xs) = true := by
  have h := di_depth xs
  have h2 : (di xs).depth ≤ 64 := by simp only [di, PyData.depth]; omega
  have h3 : (di xs).canLay0 = true := by simp only [di, PyData.canLay0, di_lay]
  unfold SeqAt.shaped
  rw [h3, decide_eq_true h2]; rfl
theorem dl_shaped (pss : List (List Int)) : SeqAt.shaped (dl pss) = true := by
  have h := dl_depth pss
  have h2 : (dl pss).depth ≤ 64 := by simp only [dl, PyData.depth]; omega
  have h3 : (dl pss).canLay0 = true := by simp only [dl, PyData.canLay0, dl_lay]
  unfold SeqAt.shaped
  rw [h3, decide_eq_true h2]; rfl
theorem shaped_refl {d : PyData} (h : SeqAt.shaped d = true) : PyData.eqv d d = true := SeqAt.eqv_refl d (SeqAt.canLay_of_shaped h)
/-- a list of lists of ints -/
def LR (H : Hp) (l : Addr) (pss : List (List Int)) : Prop := ∃ rs : List Addr, H l = some (.lst (rs.map V.ref)) ∧ Paired (fun r ps => IL H r ps) rs pss
theorem LL.lr {H₀ H : Hp} {l : Addr} {pss : List (List Int)} (h : LL H₀ H l pss) : LR H l pss := by
  obtain ⟨_, rs, a, b⟩ := h
  exact ⟨rs, a, Paired.mapP b fun _ _ q => q.2⟩
theorem LR.same {H H' : Hp} {l : Addr} {pss : List (List Int)} (e : Same H H') (h : LR H l pss) : LR H' l pss := by
  obtain ⟨rs, b, c⟩ := h
  exact ⟨rs, e _ _ b, Paired.mapP c fun _ _ q => e _ _ q⟩
section
variable {K : PySem.W.Frag} {H : Hp}
theorem ints_rd : ∀ xs : List Int, RdAll K H (xs.map V.int) (xs.map .int)
  | [] => .nil
  | x :: r => .cons (.int x) (ints_rd r)
theorem IL.rd {l : Addr} {xs : List Int} (h : IL H l xs) : RdD K H (.ref l) (di xs) := .lst (SqL.of h) (ints_rd xs)
theorem lr_rd : ∀ {rs : List Addr} {pss : List (List Int)}, Paired (fun r ps => IL H r ps) rs pss → RdAll K H (rs.map V.ref) (pss.map di)
  | _, _, .nil => .nil
  | _, _, .cons r t => .cons (IL.rd r) (lr_rd t)
theorem LR.rd {l : Addr} {pss : List (List Int)} (h : LR H l pss) : RdD K H (.ref l) (dl pss) := let ⟨_, a, b⟩ := h; .lst (SqL.of a) (lr_rd b)
end
theorem inV_ints (p : Int) : ∀ os : List Int, inV (.int p) (os.map V.int) = decide (p ∈ os)
  | [] => rfl
  | o :: r => by
    have ih := inV_ints p r
    unfold inV at ih ⊢
    rw [List.map_cons, List.any_cons, ih]
    show ((o == p) || _) = _
    by_cases e : o = p
    · subst e; simp
    · have e' : ¬ p = o := fun z => e z.symm
      simp [e, e']
theorem flat_ints : ∀ os : List Int, (os.map V.int).all flatV = true
  | [] => rfl
  | o :: r => by rw [List.map_cons, List.all_cons, flat_ints r]; rfl
/-! odd parts -/
def oddB (ps : List Int) : Bool := decide ((ps.length : Int) % 2 = 1)
def oddOf (pss : List (List Int)) : List (List Int) := pss.filter oddB
def membB (n : Nat) (b : Int → Bool) (f : Int → Int) (i : Int) : List Int := ((List.range n).filter fun j : Nat => decide (f (j : Int) = i) && b (j : Int)).map fun j : Nat => (j : Int)
def dueOf (n : Nat) (b : Int → Bool) (f : Int → Int) (k : Nat) : List (List Int) := oddOf ((List.range k).map fun i : Nat => membB n b f (i : Int))
theorem membB_len (n : Nat) (b : Int → Bool) (f : Int → Int) (i : Int) : (membB n b f i).length ≤ n := by
  unfold membB
  rw [List.length_map]
  exact Nat.le_trans (List.length_filter_le ..) (by rw [List.length_range]; exact Nat.le_refl _)
theorem membB_snoc (i : Nat) (b : Int → Bool) (f : Int → Int) (h : Int) : membB (i + 1) b f h = membB i b f h ++ if (decide (f (i : Int) = h) && b (i : Int)) = true then [(i : Int)] else [] := by
  unfold membB
  rw [filter_snoc, List.map_append]
  by_cases e : (decide (f (i : Int) = h) && b (i : Int)) = true
  · rw [if_pos e, if_pos e]; rfl
  · rw [if_neg e, if_neg e]; rfl
theorem dueOf_snoc (n : Nat) (b : Int → Bool) (f : Int → Int) (k : Nat) : dueOf n b f (k + 1) = dueOf n b f k ++ if oddB (membB n b f (k : Int)) = true then [membB n b f (k : Int)] else [] := by
  unfold dueOf oddOf
  rw [List.range_succ, List.map_append, List.filter_append, List.map_cons, List.map_nil, List.filter_cons, List.filter_nil]
theorem dueOf_len (n : Nat) (b : Int → Bool) (f : Int → Int) (k : Nat) : (dueOf n b f k).length ≤ k := by
  unfold dueOf oddOf
  exact Nat.le_trans (List.length_filter_le ..) (by rw [List.length_map, List.length_range]; exact Nat.le_refl _)
theorem due_parts {n : Int} {L : List (Int × Int)} {b : Int → Bool} {f : Int → Int} (n0 : 0 ≤ n) (I : Lab n (kept b L) f) : dueOf n.toNat b f n.toNat = oddOf (partsOf n.toNat b f) := by
  have hd : ∀ i : Nat, i < n.toNat → isHead b f i = true → membB n.toNat b f (i : Int) = memb n.toNat f (i : Int) := fun i hi hh => by
    obtain ⟨b1, e1⟩ := Bool.and_eq_true_iff.mp hh
    have e1 := of_decide_eq_true e1
    unfold membB memb
    congr 1
    apply List.filter_congr
    intro j hj
    have hj := List.mem_range.mp hj
    by_cases e : f (j : Int) = (i : Int)
    · rw [decide_eq_true e, Bool.true_and]
      cases hb : b (j : Int) with
      | true => rfl
      | false =>
        have := I.alone (p := (j : Int)) (q := (i : Int)) (by omega) (by omega) (by omega) (by omega) hb (by rw [e1, e])
        rw [this, hb] at b1
        exact Bool.noConfusion b1
    · rw [decide_eq_false e, Bool.false_and]
  have nh : ∀ i : Nat, i < n.toNat → isHead b f i = false → membB n.toNat b f (i : Int) = [] := fun i hi hh => by
    unfold membB
    rw [List.map_eq_nil_iff, List.filter_eq_nil_iff]
    intro j hj hc
    have hj := List.mem_range.mp hj
    obtain ⟨e, bj⟩ := Bool.and_eq_true_iff.mp hc
    have e := of_decide_eq_true e
    have h1 := I.idem (j : Int) (by omega) (by omega)
    have h2 := I.left (p := (j : Int)) (by omega) (by omega) bj
    rw [e] at h1 h2
    unfold isHead at hh
    rw [h2, decide_eq_true h1] at hh
    exact Bool.noConfusion hh
  have main : ∀ k : Nat, k ≤ n.toNat → dueOf n.toNat b f k = oddOf (((List.range k).filter (isHead b f)).map fun i : Nat => memb n.toNat f (i : Int)) := by
    intro k
    induction k with
    | zero => intro _; rfl
    | succ k ih =>
      intro hk
      rw [dueOf_snoc, ih (by omega), filter_snoc, List.map_append]
      unfold oddOf
      rw [List.filter_append]
      congr 1
      cases hh : isHead b f k with
      | true =>
        rw [hd k (by omega) hh]
        rw [if_pos rfl, List.map_cons, List.map_nil, List.filter_cons, List.filter_nil]
      | false =>
        rw [nh k (by omega) hh]
        rfl
  exact main _ (Nat.le_refl _)
theorem partsOf_congr {n : Nat} {b : Int → Bool} {f g : Int → Int} (h : ∀ p : Int, 0 ≤ p → p < n → f p = g p) : partsOf n b f = partsOf n b g := by
  have e1 : (List.range n).filter (isHead b f) = (List.range n).filter (isHead b g) := by
    apply List.filter_congr
    intro j hj
    have hj := List.mem_range.mp hj
    unfold isHead
    rw [h (j : Int) (by omega) (by omega)]
  have e2 : ∀ i : Int, memb n f i = memb n g i := fun i => by
    unfold memb
    congr 1
    apply List.filter_congr
    intro j hj
    have hj := List.mem_range.mp hj
    rw [h (j : Int) (by omega) (by omega)]
  unfold partsOf
  rw [e1]
  apply List.map_congr_left
  intro i _
  exact e2 _
theorem labF_rev {n : Int} {b : Int → Bool} {L : List (Int × Int)} (h : Rng n L) {p : Int} (p0 : 0 ≤ p) (p1 : p < n) : labF b L.reverse p = labF b L p := by
  have h' : Rng n L.reverse := fun l hl => h l (List.mem_reverse.mp hl)
  refine (labF_lab b h').unique (labF_lab b h) (fun a c => ?_) p0 p1
  have m : ∀ x, x ∈ kept b L.reverse ↔ x ∈ kept b L := fun x => by
    unfold kept
    rw [List.mem_filter, List.mem_filter, List.mem_reverse]
  exact ⟨fun z => z.mono fun x hx => (m x).mp hx, fun z => z.mono fun x hx => (m x).mpr hx⟩
theorem cutV_ints (os : List Int) (lo hi : Option Int) : ∃ os' : List Int, cutV (os.map V.int) lo hi = os'.map V.int ∧ (∀ p ∈ os', p ∈ os) ∧ os'.length ≤ os.length := by
  refine ⟨(os.drop (HT.sIx (os.map V.int).length 0 lo)).take (HT.sIx (os.map V.int).length (os.map V.int).length hi - HT.sIx (os.map V.int).length 0 lo), ?_, ?_, ?_⟩
  · unfold cutV
    rw [← List.map_drop, ← List.map_take]
  · intro p hp
    exact List.mem_of_mem_drop (List.mem_of_mem_take hp)
  · rw [List.length_take, List.length_drop]; omega
end K3
/-! ### the parts are a partition: what the law's own look asks -/
namespace K3
open PySem L2
theorem len_le_of_sub : ∀ {xs ys : List Int}, xs.Nodup → (∀ x ∈ xs, x ∈ ys) → xs.length ≤ ys.length
  | [], _, _, _ => Nat.zero_le _
  | x :: r, ys, nd, h => by
    obtain ⟨h1, h2⟩ := List.nodup_cons.mp nd
    have hx : x ∈ ys := h x (List.mem_cons_self ..)
    have ih := len_le_of_sub (xs := r) (ys := ys.erase x) h2 fun y hy => by
      have hne : y ≠ x := fun e => h1 (e ▸ hy)
      exact (List.mem_erase_of_ne hne).mpr (h y (List.mem_cons_of_mem _ hy))
    rw [List.length_erase_of_mem hx] at ih
    have : 0 < ys.length := List.length_pos_of_mem hx
    rw [List.length_cons]
    omega
theorem len_of_same {xs ys : List Int} (n1 : xs.Nodup) (n2 : ys.Nodup) (h : ∀ x, x ∈ xs ↔ x ∈ ys) : xs.length = ys.length :=
  Nat.le_antisymm (len_le_of_sub n1 fun x hx => (h x).mp hx) (len_le_of_sub n2 fun x hx => (h x).mpr hx)
/-- the places as ints -/
def placesI (n : Nat) : List Int := (List.range n).map fun i : Nat => (i : Int)
theorem sorted_cast {xs : List Nat} (h : xs.Pairwise (· < ·)) : (xs.map fun i : Nat => (i : Int)).Pairwise (· < ·) := by
  rw [List.pairwise_map]
  exact h.imp fun {a b} z => by omega
theorem memb_sorted (n : Nat) (f : Int → Int) (i : Int) : (memb n f i).Pairwise (· < ·) := sorted_cast (List.Pairwise.filter _ List.pairwise_lt_range)
theorem places_sorted (n : Nat) : (placesI n).Pairwise (· < ·) := sorted_cast List.pairwise_lt_range
theorem nodup_of_sorted {xs : List Int} (h : xs.Pairwise (· < ·)) : xs.Nodup := h.imp fun {a b} z => by omega
theorem mem_places {n : Nat} {x : Int} : x ∈ placesI n ↔ 0 ≤ x ∧ x < n := by
  unfold placesI
  rw [List.mem_map]
  constructor
  · rintro ⟨j, hj, rfl⟩
    have := List.mem_range.mp hj
    omega
  · rintro ⟨h0, h1⟩
    exact ⟨x.toNat, List.mem_range.mpr (by omega), by omega⟩
/-- what the law's own look at found parts asks -/
structure Ptn (n : Int) (os : List Int) (pss : List (List Int)) : Prop where
  ne : ∀ ps ∈ pss, ps ≠ []
  hd : ∀ (k : Nat) (a b : Int) (ps qs : List Int), pss[k]? = some ps → pss[k + 1]? = some qs → ps[0]? = some a → qs[0]? = some b → a ≤ b
  nd : pss.flatten.Nodup
  rng : ∀ x ∈ pss.flatten, (0 ≤ x ∧ x < n) ∧ ¬ x ∈ os
  srt : ∀ ps ∈ pss, ps.Pairwise (· < ·)
  cnt : ((pss.flatten.length : Nat) : Int) + os.length = n
  few : pss.length ≤ n.toNat
section
variable {n : Int} {L : List (Int × Int)} {b : Int → Bool} {f : Int → Int}
theorem Lab.mem (n0 : 0 ≤ n) (I : Lab n (kept b L) f) (x : Int) : x ∈ (partsOf n.toNat b f).flatten ↔ (0 ≤ x ∧ x < n) ∧ b x = true := by
  rw [List.mem_flatten]
  constructor
  · rintro ⟨ps, hps, hx⟩
    obtain ⟨i, hi, rfl⟩ := List.mem_map.mp hps
    obtain ⟨h1, h2⟩ := List.mem_filter.mp hi
    obtain ⟨b1, e1⟩ := Bool.and_eq_true_iff.mp h2
    have e1 := of_decide_eq_true e1
    have h1 := List.mem_range.mp h1
    obtain ⟨⟨x0, x1⟩, ex⟩ := mem_memb.mp hx
    refine ⟨⟨x0, by omega⟩, ?_⟩
    cases hb : b x with
    | true => rfl
    | false =>
      have := I.alone (p := x) (q := (i : Int)) x0 (by omega) (by omega) (by omega) hb (by rw [e1, ex])
      rw [← this, b1] at hb
      exact Bool.noConfusion hb
  · rintro ⟨⟨x0, x1⟩, hb⟩
    have hl := I.left x0 x1 hb
    have hi := I.idem x x0 x1
    have hle := I.le x x0 x1
    have e : (((f x).toNat : Nat) : Int) = f x := by omega
    refine ⟨memb n.toNat f (f x), List.mem_map.mpr ⟨(f x).toNat, List.mem_filter.mpr ⟨List.mem_range.mpr (by omega), ?_⟩, by rw [e]⟩, mem_memb.mpr ⟨⟨x0, by omega⟩, rfl⟩⟩
    unfold isHead
    rw [e, hl, decide_eq_true hi]; rfl
theorem head_first (n0 : 0 ≤ n) (I : Lab n (kept b L) f) {i : Nat} (h1 : i < n.toNat) (hh : isHead b f i = true) : ∃ r, memb n.toNat f (i : Int) = (i : Int) :: r := by
  obtain ⟨b1, e1⟩ := Bool.and_eq_true_iff.mp hh
  have e1 := of_decide_eq_true e1
  have hm : (i : Int) ∈ memb n.toNat f (i : Int) := mem_memb.mpr ⟨⟨by omega, by omega⟩, e1⟩
  cases he : memb n.toNat f (i : Int) with
  | nil => rw [he] at hm; exact absurd hm List.not_mem_nil
  | cons a r =>
    have ha : a ∈ memb n.toNat f (i : Int) := by rw [he]; exact List.mem_cons_self ..
    obtain ⟨⟨a0, a1⟩, ea⟩ := mem_memb.mp ha
    have := (I.le a a0 (by omega)).2
    have hs := memb_sorted n.toNat f (i : Int)
    rw [he] at hs hm
    rcases List.mem_cons.mp hm with e | e
    · exact ⟨r, by rw [← e]⟩
    · have := (List.pairwise_cons.mp hs).1 _ e
      omega
theorem parts_ptn (n0 : 0 ≤ n) {os : List Int} (I : Lab n (kept (outB os) L) f) (nd : os.Nodup) (ho : ∀ p ∈ os, 0 ≤ p ∧ p < n) : Ptn n os (partsOf n.toNat (outB os) f) := by
  have mem := I.mem n0
  have hb : ∀ x, outB os x = true ↔ ¬ x ∈ os := fun x => by unfold outB; simp
  have heads : ((List.range n.toNat).filter (isHead (outB os) f)).Pairwise (· < ·) := List.Pairwise.filter _ List.pairwise_lt_range
  have ndf : (partsOf n.toNat (outB os) f).flatten.Nodup := by
    unfold List.Nodup
    rw [List.pairwise_flatten]
    refine ⟨fun l hl => ?_, ?_⟩
    · obtain ⟨i, _, rfl⟩ := List.mem_map.mp hl
      exact nodup_of_sorted (memb_sorted ..)
    · unfold partsOf
      rw [List.pairwise_map]
      refine heads.imp fun {i j} hij x hx y hy e => ?_
      have h1 := (mem_memb.mp hx).2
      have h2 := (mem_memb.mp hy).2
      rw [e] at h1
      omega
  refine ⟨fun ps hps => ?_, fun k a c ps qs hk hk1 ha hc => ?_, ndf, fun x hx => ?_, fun ps hps => ?_, ?_, heads_len _ _ _ _ (Nat.le_refl _)⟩
  · obtain ⟨i, hi, rfl⟩ := List.mem_map.mp hps
    obtain ⟨h1, h2⟩ := List.mem_filter.mp hi
    obtain ⟨r, hr⟩ := head_first n0 I (List.mem_range.mp h1) h2
    rw [hr]; exact List.cons_ne_nil _ _
  · unfold partsOf at hk hk1
    rw [List.getElem?_map] at hk hk1
    obtain ⟨i, hi, rfl⟩ := Option.map_eq_some_iff.mp hk
    obtain ⟨j, hj, rfl⟩ := Option.map_eq_some_iff.mp hk1
    obtain ⟨i1, i2⟩ := List.mem_filter.mp (List.mem_of_getElem? hi)
    obtain ⟨j1, j2⟩ := List.mem_filter.mp (List.mem_of_getElem? hj)
    obtain ⟨r, hr⟩ := head_first n0 I (List.mem_range.mp i1) i2
    obtain ⟨s, hs⟩ := head_first n0 I (List.mem_range.mp j1) j2
    rw [hr] at ha
    rw [hs] at hc
    have ea : (i : Int) = a := Option.some.inj ha
    have ec : (j : Int) = c := Option.some.inj hc
    obtain ⟨li, ei⟩ := List.getElem?_eq_some_iff.mp hi
    obtain ⟨lj, ej⟩ := List.getElem?_eq_some_iff.mp hj
    have := List.pairwise_iff_getElem.mp heads k (k + 1) li lj (by omega)
    rw [ei, ej] at this
    omega
  · obtain ⟨h1, h2⟩ := (mem x).mp hx
    exact ⟨h1, (hb x).mp h2⟩
  · obtain ⟨i, _, rfl⟩ := List.mem_map.mp hps
    exact memb_sorted ..
  · have nda : ((partsOf n.toNat (outB os) f).flatten ++ os).Nodup := by
      rw [List.nodup_append]
      refine ⟨ndf, nd, fun x hx y hy e => ?_⟩
      have := (hb x).mp ((mem x).mp hx).2
      rw [e] at this
      exact this hy
    have := len_of_same nda (nodup_of_sorted (places_sorted n.toNat)) fun x => by
      rw [List.mem_append, mem, mem_places]
      constructor
      · rintro (⟨h, _⟩ | h)
        · omega
        · have := ho x h; omega
      · intro h
        by_cases hx : x ∈ os
        · exact .inr hx
        · exact .inl ⟨by omega, (hb x).mpr hx⟩
    rw [List.length_append] at this
    unfold placesI at this
    rw [List.length_map, List.length_range] at this
    omega
/-- a part is what ways lead to -/
theorem part_conn (n0 : 0 ≤ n) (I : Lab n (kept b L) f) {ps : List Int} (hps : ps ∈ partsOf n.toNat b f) : ∃ p r, ps = p :: r ∧ ∀ x, x ∈ ps ↔ (0 ≤ x ∧ x < n) ∧ Conn (kept b L) p x := by
  obtain ⟨i, hi, rfl⟩ := List.mem_map.mp hps
  obtain ⟨h1, h2⟩ := List.mem_filter.mp hi
  have h1 := List.mem_range.mp h1
  obtain ⟨r, hr⟩ := head_first n0 I h1 h2
  obtain ⟨b1, e1⟩ := Bool.and_eq_true_iff.mp h2
  have e1 := of_decide_eq_true e1
  refine ⟨(i : Int), r, hr, fun x => ?_⟩
  rw [mem_memb]
  constructor
  · rintro ⟨⟨x0, x1⟩, ex⟩
    exact ⟨by omega, (I.iff (i : Int) x (by omega) (by omega) x0 (by omega)).mp (by rw [e1, ex])⟩
  · rintro ⟨⟨x0, x1⟩, c⟩
    have := (I.iff (i : Int) x (by omega) (by omega) x0 x1).mpr c
    exact ⟨by omega, by rw [← this, e1]⟩
/-- two ends of a link stand in one part -/
theorem same_part (n0 : 0 ≤ n) (I : Lab n (kept b L) f) {u v : Int} (h : (u, v) ∈ kept b L) {ps : List Int} (hps : ps ∈ partsOf n.toNat b f) (hu : u ∈ ps) : v ∈ ps := by
  obtain ⟨p, r, _, m⟩ := part_conn n0 I hps
  obtain ⟨_, _, v0, v1⟩ := I.rng _ h
  exact (m v).mpr ⟨⟨v0, v1⟩, ((m u).mp hu).2.trans (.link h)⟩
end
/-! the law's own dict: each place with its part's number -/
def wpairs : Nat → List (List Int) → List (Key × V)
  | _, [] => []
  | i, ps :: r => ps.map (fun x => ((Sum.inl x : Key), V.int (i : Int))) ++ wpairs (i + 1) r
theorem wpairs_snoc (qs : List Int) : ∀ (i : Nat) (pss : List (List Int)), wpairs i (pss ++ [qs]) = wpairs i pss ++ qs.map (fun x => ((Sum.inl x : Key), V.int ((i + pss.length : Nat) : Int)))
  | i, [] => by simp [wpairs]
  | i, ps :: r => by
    rw [List.cons_append]
    simp only [wpairs]
    rw [wpairs_snoc qs (i + 1) r, List.append_assoc, List.length_cons]
    have e : i + 1 + r.length = i + (r.length + 1) := by omega
    rw [e]
theorem wpairs_keys : ∀ (i : Nat) (pss : List (List Int)), (wpairs i pss).map (·.1) = pss.flatten.map fun x => (Sum.inl x : Key)
  | i, [] => rfl
  | i, ps :: r => by
    simp only [wpairs, List.map_append, List.flatten_cons, wpairs_keys (i + 1) r, List.map_map]
    rfl
theorem wpairs_mem {x : Int} {ps : List Int} : ∀ {i k : Nat} {pss : List (List Int)}, pss[k]? = some ps → x ∈ ps → ((Sum.inl x : Key), V.int ((i + k : Nat) : Int)) ∈ wpairs i pss
  | i, k, [], h, _ => by simp at h
  | i, 0, p :: r, h, hx => by
    have e : p = ps := by simpa using h
    subst e
    simp only [wpairs, Nat.add_zero]
    exact List.mem_append_left _ (List.mem_map.mpr ⟨x, hx, rfl⟩)
  | i, k + 1, p :: r, h, hx => by
    have h' : r[k]? = some ps := by simpa using h
    have := wpairs_mem (i := i + 1) h' hx
    have e : i + 1 + k = i + (k + 1) := by omega
    rw [e] at this
    simp only [wpairs]
    exact List.mem_append_right _ this
theorem valV_of_mem {kvs : List (Key × V)} {k : Key} {v : V} (nd : (kvs.map (·.1)).Nodup) (h : (k, v) ∈ kvs) : valV kvs k = some v := by
  induction kvs with
  | nil => exact absurd h List.not_mem_nil
  | cons p r ih =>
    rw [List.map_cons] at nd
    obtain ⟨h1, h2⟩ := List.nodup_cons.mp nd
    rcases List.mem_cons.mp h with e | e
    · subst e; exact valV_pos rfl
    · have hne : ¬ p.1 = k := fun z => h1 (by rw [z]; exact List.mem_map.mpr ⟨_, e, rfl⟩)
      rw [valV_neg hne]
      exact ih h2 e
theorem inl_nodup {xs : List Int} (h : xs.Nodup) : (xs.map fun x => (Sum.inl x : Key)).Nodup := by
  unfold List.Nodup
  rw [List.pairwise_map]
  exact h.imp fun {a b} z e => z (Sum.inl.inj e)
theorem mem_inl {xs : List Int} {x : Int} : (Sum.inl x : Key) ∈ (xs.map fun x => (Sum.inl x : Key)) ↔ x ∈ xs := by
  rw [List.mem_map]
  constructor
  · rintro ⟨y, hy, e⟩
    have := Sum.inl.inj e
    exact this ▸ hy
  · intro h; exact ⟨x, h, rfl⟩
/-- whether a key is there, by the keys -/
theorem isSome_keys {kvs : List (Key × V)} {xs : List Int} (h : kvs.map (·.1) = xs.map fun x => (Sum.inl x : Key)) (x : Int) : (valV kvs (Sum.inl x)).isSome = decide (x ∈ xs) := by
  cases e : valV kvs (Sum.inl x) with
  | none =>
    have := valV_not e
    rw [h] at this
    have hx : ¬ x ∈ xs := fun z => this (mem_inl.mpr z)
    rw [decide_eq_false hx]; rfl
  | some v =>
    have := valV_in e
    rw [h] at this
    rw [decide_eq_true (mem_inl.mp this)]; rfl
/-- the keys behind a store -/
theorem keys_put {kvs : List (Key × V)} {xs : List Int} (h : kvs.map (·.1) = xs.map fun x => (Sum.inl x : Key)) (x : Int) (v : V) : (putK kvs (Sum.inl x) v).map (·.1) = (if x ∈ xs then xs else xs ++ [x]).map fun x => (Sum.inl x : Key) := by
  have e := isSome_keys h x
  unfold putK
  rw [valV_any, e]
  by_cases hx : x ∈ xs
  · rw [decide_eq_true hx, if_pos rfl, if_pos hx, List.map_map, ← h]
    apply List.map_congr_left
    intro p _
    show (if p.1 = Sum.inl x then (p.1, v) else p).1 = p.1
    split <;> rfl
  · rw [decide_eq_false hx, if_neg Bool.false_ne_true, if_neg hx, List.map_append, List.map_append, h]; rfl
end K3
/-! ### full pairings and their rings: the mathematics -/
namespace M6
theorem nodup_len : ∀ (n : Nat) (l : List Int), l.Nodup → (∀ x ∈ l, 0 ≤ x ∧ x < n) → l.length ≤ n
  | 0, [], _, _ => Nat.le_refl _
  | 0, x :: _, _, h => by have := h x (List.mem_cons_self ..); omega
  | n + 1, l, hn, h => by
    have h1 := nodup_len n (l.erase (n : Int)) (hn.erase _) (fun x hx => by
      have := h x (List.mem_of_mem_erase hx)
      have hne : x ≠ (n : Int) := fun e => by
        subst e
        exact (List.Nodup.mem_erase_iff hn).mp hx |>.1 rfl
      omega)
    have h2 : l.length ≤ (l.erase (n : Int)).length + 1 := by
      rw [List.length_erase]
      split <;> omega
    omega
theorem nodup_full {n : Nat} {l : List Int} (hn : l.Nodup) (h : ∀ x, x ∈ l ↔ 0 ≤ x ∧ x < (n : Int)) : l.length = n := by
  apply Nat.le_antisymm (nodup_len n l hn fun x hx => (h x).mp hx)
  have hr : ((List.range n).map fun i : Nat => (i : Int)).Nodup := by
    rw [List.nodup_iff_pairwise_ne, List.pairwise_map]
    exact (List.nodup_range (n := n)).imp fun hab e => hab (by omega)
  have hp : l.Perm ((List.range n).map fun i : Nat => (i : Int)) := by
    rw [List.perm_ext_iff_of_nodup hn hr]
    intro x
    rw [h x, List.mem_map]
    constructor
    · rintro ⟨a, b⟩
      exact ⟨x.toNat, List.mem_range.mpr (by omega), by omega⟩
    · rintro ⟨i, hi, rfl⟩
      have := List.mem_range.mp hi
      omega
  rw [hp.length_eq, List.length_map, List.length_range]
  exact Nat.le_refl _
/-- all ends -/
def ends (ps : List (Int × Int)) : List Int := ps.flatMap fun p => [p.1, p.2]
theorem ends_nil : ends [] = [] := rfl
theorem ends_cons (p : Int × Int) (r : List (Int × Int)) : ends (p :: r) = p.1 :: p.2 :: ends r := rfl
theorem ends_append (ps qs : List (Int × Int)) : ends (ps ++ qs) = ends ps ++ ends qs := by simp [ends]
theorem ends_len : ∀ ps : List (Int × Int), (ends ps).length = 2 * ps.length
  | [] => rfl
  | p :: r => by rw [ends_cons, List.length_cons, List.length_cons, List.length_cons, ends_len r]; omega
theorem mem_ends {x : Int} {ps : List (Int × Int)} : x ∈ ends ps ↔ ∃ p ∈ ps, x = p.1 ∨ x = p.2 := by
  simp [ends, List.mem_flatMap]
theorem ends_perm {ps qs : List (Int × Int)} (h : ps.Perm qs) : (ends ps).Perm (ends qs) := h.flatMap_right _
/-- the place that x is paired with -/
def mt : List (Int × Int) → Int → Int
  | [], x => x
  | p :: r, x => if x = p.1 then p.2 else if x = p.2 then p.1 else mt r x
theorem mt_of {ps : List (Int × Int)} (hn : (ends ps).Nodup) : ∀ {p : Int × Int}, p ∈ ps → mt ps p.1 = p.2 ∧ mt ps p.2 = p.1 := by
  induction ps with
  | nil => intro p hp; cases hp
  | cons q r ih =>
    intro p hp
    rw [ends_cons, List.nodup_cons, List.nodup_cons] at hn
    obtain ⟨h1, h2, h3⟩ := hn
    have e12 : q.2 ≠ q.1 := fun e => h1 (by rw [← e]; exact List.mem_cons_self ..)
    rcases List.mem_cons.mp hp with e | e
    · subst e
      refine ⟨by simp [mt], ?_⟩
      simp [mt, e12]
    · have m1 : p.1 ∈ ends r := mem_ends.mpr ⟨p, e, .inl rfl⟩
      have m2 : p.2 ∈ ends r := mem_ends.mpr ⟨p, e, .inr rfl⟩
      have a1 : p.1 ≠ q.1 := fun z => h1 (List.mem_cons_of_mem _ (z ▸ m1))
      have a2 : p.1 ≠ q.2 := fun z => h2 (z ▸ m1)
      have a3 : p.2 ≠ q.1 := fun z => h1 (List.mem_cons_of_mem _ (z ▸ m2))
      have a4 : p.2 ≠ q.2 := fun z => h2 (z ▸ m2)
      obtain ⟨i1, i2⟩ := ih h3 e
      simp only [mt]
      rw [if_neg a1, if_neg a2, if_neg a3, if_neg a4]
      exact ⟨i1, i2⟩
/-- a full pairing of n places, as it is told -/
structure Full (n : Nat) (ps : List (Int × Int)) : Prop where
  lt : ∀ p ∈ ps, p.1 < p.2
  nd : (ends ps).Nodup
  mem : ∀ x, x ∈ ends ps ↔ 0 ≤ x ∧ x < (n : Int)
  up : ps.Pairwise fun a b => a.1 < b.1
theorem Full.len {n : Nat} {ps : List (Int × Int)} (h : Full n ps) : 2 * ps.length = n := by rw [← ends_len, nodup_full h.nd h.mem]
/-- how a mate function is -/
structure Inv2 (n : Nat) (f : Int → Int) : Prop where
  lo : ∀ x, 0 ≤ x → x < (n : Int) → 0 ≤ f x
  hi : ∀ x, 0 ≤ x → x < (n : Int) → f x < (n : Int)
  inv : ∀ x, 0 ≤ x → x < (n : Int) → f (f x) = x
  ne : ∀ x, 0 ≤ x → x < (n : Int) → f x ≠ x
theorem Full.inv2 {n : Nat} {ps : List (Int × Int)} (h : Full n ps) : Inv2 n (mt ps) := by
  have key : ∀ x, 0 ≤ x → x < (n : Int) → (0 ≤ mt ps x ∧ mt ps x < (n : Int)) ∧ mt ps (mt ps x) = x ∧ mt ps x ≠ x := fun x h0 h1 => by
    obtain ⟨p, hp, e⟩ := mem_ends.mp ((h.mem x).mpr ⟨h0, h1⟩)
    obtain ⟨a, b⟩ := mt_of h.nd hp
    have r1 := (h.mem p.1).mp (mem_ends.mpr ⟨p, hp, .inl rfl⟩)
    have r2 := (h.mem p.2).mp (mem_ends.mpr ⟨p, hp, .inr rfl⟩)
    have l := h.lt p hp
    rcases e with rfl | rfl
    · rw [a, b]; exact ⟨r2, rfl, by omega⟩
    · rw [b, a]; exact ⟨r1, rfl, by omega⟩
  exact ⟨fun x a b => (key x a b).1.1, fun x a b => (key x a b).1.2, fun x a b => (key x a b).2.1, fun x a b => (key x a b).2.2⟩
/-- linked, as the law asks it -/
theorem Full.linked {n : Nat} {ps : List (Int × Int)} (h : Full n ps) {x : Int} (h0 : 0 ≤ x) (h1 : x < (n : Int)) : ((if mt ps x < x then mt ps x else x), (if mt ps x > x then mt ps x else x)) ∈ ps := by
  obtain ⟨p, hp, e⟩ := mem_ends.mp ((h.mem x).mpr ⟨h0, h1⟩)
  obtain ⟨a, b⟩ := mt_of h.nd hp
  have l := h.lt p hp
  rcases e with rfl | rfl
  · rw [a, if_neg (by omega), if_pos (by omega)]; exact hp
  · rw [b, if_pos (by omega), if_neg (by omega)]; exact hp
/-! the walk -/
def sq (f g : Int → Int) (b : Int) : Nat → Int
  | 0 => b
  | k + 1 => if k % 2 = 0 then f (sq f g b k) else g (sq f g b k)
theorem sq_odd {f g : Int → Int} {b : Int} {k : Nat} (h : k % 2 = 0) : sq f g b (k + 1) = f (sq f g b k) := by simp only [sq, h, if_true]
theorem sq_even {f g : Int → Int} {b : Int} {k : Nat} (h : k % 2 = 1) : sq f g b (k + 1) = g (sq f g b k) := by
  simp only [sq]; rw [if_neg (by omega)]
section
variable {n : Nat} {f g : Int → Int} {b : Int}
theorem sq_in (hf : Inv2 n f) (hg : Inv2 n g) (b0 : 0 ≤ b) (b1 : b < (n : Int)) : ∀ k, 0 ≤ sq f g b k ∧ sq f g b k < (n : Int)
  | 0 => ⟨b0, b1⟩
  | k + 1 => by
    obtain ⟨a, c⟩ := sq_in hf hg b0 b1 k
    rcases Nat.mod_two_eq_zero_or_one k with e | e
    · rw [sq_odd e]; exact ⟨hf.lo _ a c, hf.hi _ a c⟩
    · rw [sq_even e]; exact ⟨hg.lo _ a c, hg.hi _ a c⟩
theorem Inv2.inj (hf : Inv2 n f) {x y : Int} (x0 : 0 ≤ x) (x1 : x < (n : Int)) (y0 : 0 ≤ y) (y1 : y < (n : Int)) (e : f x = f y) : x = y := by
  rw [← hf.inv x x0 x1, ← hf.inv y y0 y1, e]
/-- no place comes again ahead of the begin -/
theorem sq_new (hf : Inv2 n f) (hg : Inv2 n g) (b0 : 0 ≤ b) (b1 : b < (n : Int)) {k : Nat} (hk : ∀ i, 1 ≤ i → i < k → sq f g b (2 * i) ≠ b) :
    ∀ m, m < 2 * k → ∀ j, j < m → sq f g b j ≠ sq f g b m := by
  have I := sq_in hf hg b0 b1
  intro m
  induction m using Nat.strongRecOn with
  | ind m ih =>
    intro hm j hj e
    have inj : ∀ x y, x < m → y < m → sq f g b x = sq f g b y → x = y := fun x y hx hy z => by
      rcases Nat.lt_trichotomy x y with h | h | h
      · exact absurd z (ih y hy (by omega) x h)
      · exact h
      · exact absurd z.symm (ih x hx (by omega) y h)
    cases m with
    | zero => omega
    | succ t =>
      rcases Nat.mod_two_eq_zero_or_one t with et | et
      · rw [sq_odd et] at e
        rcases Nat.mod_two_eq_zero_or_one j with ej | ej
        · have e2 : sq f g b (j + 1) = sq f g b t := by rw [sq_odd ej, e]; exact hf.inv _ (I t).1 (I t).2
          by_cases h : j + 1 < t + 1
          · have := inj (j + 1) t h (by omega) e2
            omega
          · have : j = t := by omega
            subst this
            exact hf.ne _ (I j).1 (I j).2 e.symm
        · obtain ⟨j', rfl⟩ : ∃ j', j = j' + 1 := ⟨j - 1, by omega⟩
          rw [sq_odd (by omega)] at e
          have := inj j' t (by omega) (by omega) (hf.inj (I _).1 (I _).2 (I _).1 (I _).2 e)
          omega
      · rw [sq_even et] at e
        rcases Nat.mod_two_eq_zero_or_one j with ej | ej
        · cases j with
          | zero =>
            have := hk ((t + 1) / 2) (by omega) (by omega)
            rw [show 2 * ((t + 1) / 2) = t + 1 by omega, sq_even et] at this
            exact this e.symm
          | succ j' =>
            rw [sq_even (by omega)] at e
            have := inj j' t (by omega) (by omega) (hg.inj (I _).1 (I _).2 (I _).1 (I _).2 e)
            omega
        · have e2 : sq f g b (j + 1) = sq f g b t := by rw [sq_even ej, e]; exact hg.inv _ (I t).1 (I t).2
          by_cases h : j + 1 < t + 1
          · have := inj (j + 1) t h (by omega) e2
            omega
          · have : j = t := by omega
            subst this
            exact hg.ne _ (I j).1 (I j).2 e.symm
/-- the first 2 k places -/
def wk (f g : Int → Int) (b : Int) (m : Nat) : List Int := (List.range m).map (sq f g b)
theorem wk_len (f g : Int → Int) (b : Int) (m : Nat) : (wk f g b m).length = m := by unfold wk; rw [List.length_map, List.length_range]
theorem wk_succ (f g : Int → Int) (b : Int) (m : Nat) : wk f g b (m + 1) = wk f g b m ++ [sq f g b m] := by unfold wk; rw [List.range_succ, List.map_append]; rfl
theorem wk_get {m i : Nat} (h : i < m) : (wk f g b m)[i]? = some (sq f g b i) := by unfold wk; rw [List.getElem?_map, List.getElem?_range h]; rfl
theorem mem_wk {m : Nat} {x : Int} : x ∈ wk f g b m ↔ ∃ i, i < m ∧ sq f g b i = x := by
  unfold wk; rw [List.mem_map]
  exact ⟨fun ⟨i, a, e⟩ => ⟨i, List.mem_range.mp a, e⟩, fun ⟨i, a, e⟩ => ⟨i, List.mem_range.mpr a, e⟩⟩
theorem wk_nd (hf : Inv2 n f) (hg : Inv2 n g) (b0 : 0 ≤ b) (b1 : b < (n : Int)) {k : Nat} (hk : ∀ i, 1 ≤ i → i < k → sq f g b (2 * i) ≠ b) : (wk f g b (2 * k)).Nodup := by
  unfold wk
  rw [List.nodup_iff_pairwise_ne, List.pairwise_map, List.pairwise_iff_getElem]
  intro i j hi hj hij
  simp only [List.getElem_range]
  rw [List.length_range] at hj
  exact sq_new hf hg b0 b1 hk j hj i hij
theorem wk_le (hf : Inv2 n f) (hg : Inv2 n g) (b0 : 0 ≤ b) (b1 : b < (n : Int)) {k : Nat} (hk : ∀ i, 1 ≤ i → i < k → sq f g b (2 * i) ≠ b) : 2 * k ≤ n := by
  have := nodup_len n (wk f g b (2 * k)) (wk_nd hf hg b0 b1 hk) fun x hx => by
    obtain ⟨i, _, rfl⟩ := mem_wk.mp hx
    exact sq_in hf hg b0 b1 i
  rwa [wk_len] at this
/-- the ring closes behind 2 k places, not sooner -/
def IsFirst (f g : Int → Int) (b : Int) (k : Nat) : Prop := 1 ≤ k ∧ sq f g b (2 * k) = b ∧ ∀ i, 1 ≤ i → i < k → sq f g b (2 * i) ≠ b
theorem IsFirst.unique {k l : Nat} (h : IsFirst f g b k) (h' : IsFirst f g b l) : k = l := by
  rcases Nat.lt_trichotomy k l with z | z | z
  · exact absurd h.2.1 (h'.2.2 k h.1 z)
  · exact z
  · exact absurd h'.2.1 (h.2.2 l h'.1 z)
noncomputable def per (f g : Int → Int) (b : Int) : Nat := Classical.epsilon (IsFirst f g b)
theorem IsFirst.per {k : Nat} (h : IsFirst f g b k) : M6.per f g b = k := IsFirst.unique (Classical.epsilon_spec (p := IsFirst f g b) ⟨k, h⟩) h
noncomputable def ring (f g : Int → Int) (b : Int) : List Int := wk f g b (2 * per f g b)
theorem IsFirst.ring {k : Nat} (h : IsFirst f g b k) : M6.ring f g b = wk f g b (2 * k) := by unfold M6.ring; rw [h.per]
/-- there is one -/
theorem first_ex (hf : Inv2 n f) (hg : Inv2 n g) (b0 : 0 ≤ b) (b1 : b < (n : Int)) : ∃ k, IsFirst f g b k := by
  refine Classical.byContradiction fun hno => ?_
  have all : ∀ k i, 1 ≤ i → i < k → sq f g b (2 * i) ≠ b := by
    intro k
    induction k with
    | zero => intro i _ h; omega
    | succ k ih =>
      intro i h1 h2 e
      by_cases h : i < k
      · exact ih i h1 h e
      · have : i = k := by omega
        subst this
        exact hno ⟨i, h1, e, ih⟩
  have := wk_le hf hg b0 b1 (all (n + 1))
  omega
theorem ring_closed (hf : Inv2 n f) (hg : Inv2 n g) (b0 : 0 ≤ b) (b1 : b < (n : Int)) {x : Int} (hx : x ∈ ring f g b) : f x ∈ ring f g b ∧ g x ∈ ring f g b := by
  obtain ⟨k, hk⟩ := first_ex hf hg b0 b1
  rw [hk.ring] at hx ⊢
  have k1 := hk.1
  have I := sq_in hf hg b0 b1
  obtain ⟨i, hi, rfl⟩ := mem_wk.mp hx
  rcases Nat.mod_two_eq_zero_or_one i with e | e
  · refine ⟨mem_wk.mpr ⟨i + 1, by omega, sq_odd e⟩, mem_wk.mpr ?_⟩
    cases i with
    | zero =>
      refine ⟨2 * k - 1, by omega, ?_⟩
      have h2 := hk.2.1
      rw [show 2 * k = (2 * k - 1) + 1 by omega, sq_even (by omega)] at h2
      show sq f g b (2 * k - 1) = g b
      have h3 : g (g (sq f g b (2 * k - 1))) = g b := congrArg g h2
      rw [← h3, hg.inv _ (I _).1 (I _).2]
    | succ j =>
      refine ⟨j, by omega, ?_⟩
      rw [sq_even (by omega), hg.inv _ (I _).1 (I _).2]
  · refine ⟨mem_wk.mpr ?_, mem_wk.mpr ?_⟩
    · obtain ⟨j, rfl⟩ : ∃ j, i = j + 1 := ⟨i - 1, by omega⟩
      exact ⟨j, by omega, by rw [sq_odd (by omega), hf.inv _ (I _).1 (I _).2]⟩
    · by_cases h : i + 1 < 2 * k
      · exact ⟨i + 1, h, sq_even e⟩
      · refine ⟨0, by omega, ?_⟩
        have h2 := hk.2.1
        rw [show 2 * k = i + 1 by omega, sq_even e] at h2
        exact h2.symm
/-- a ring is all in a closed set or all out of it -/
theorem ring_out (hf : Inv2 n f) (hg : Inv2 n g) (b0 : 0 ≤ b) (b1 : b < (n : Int)) {S : List Int} (hS : ∀ x ∈ S, 0 ≤ x ∧ x < (n : Int) ∧ f x ∈ S ∧ g x ∈ S) (hb : b ∉ S) : ∀ x ∈ ring f g b, x ∉ S := by
  have I := sq_in hf hg b0 b1
  have : ∀ i, sq f g b i ∉ S := by
    intro i
    induction i with
    | zero => exact hb
    | succ i ih =>
      intro hm
      obtain ⟨a, c, d, e⟩ := hS _ hm
      rcases Nat.mod_two_eq_zero_or_one i with z | z
      · rw [sq_odd z] at d
        rw [hf.inv _ (I i).1 (I i).2] at d
        exact ih d
      · rw [sq_even z] at e
        rw [hg.inv _ (I i).1 (I i).2] at e
        exact ih e
  intro x hx
  obtain ⟨i, _, rfl⟩ := mem_wk.mp hx
  exact this i
theorem ring_nd (hf : Inv2 n f) (hg : Inv2 n g) (b0 : 0 ≤ b) (b1 : b < (n : Int)) : (ring f g b).Nodup := by
  obtain ⟨k, hk⟩ := first_ex hf hg b0 b1
  rw [hk.ring]; exact wk_nd hf hg b0 b1 hk.2.2
theorem ring_in (hf : Inv2 n f) (hg : Inv2 n g) (b0 : 0 ≤ b) (b1 : b < (n : Int)) {x : Int} (hx : x ∈ ring f g b) : 0 ≤ x ∧ x < (n : Int) := by
  obtain ⟨i, _, rfl⟩ := mem_wk.mp hx
  exact sq_in hf hg b0 b1 i
theorem ring_begin (hf : Inv2 n f) (hg : Inv2 n g) (b0 : 0 ≤ b) (b1 : b < (n : Int)) : (ring f g b)[0]? = some b := by
  obtain ⟨k, hk⟩ := first_ex hf hg b0 b1
  have := hk.1
  rw [hk.ring, wk_get (by omega)]; rfl
theorem mem_ring_self (hf : Inv2 n f) (hg : Inv2 n g) (b0 : 0 ≤ b) (b1 : b < (n : Int)) : b ∈ ring f g b := List.mem_of_getElem? (ring_begin hf hg b0 b1)
end
/-! all rings -/
noncomputable def acc (f g : Int → Int) : Nat → List (List Int)
  | 0 => []
  | i + 1 => if (i : Int) ∈ (acc f g i).flatten then acc f g i else acc f g i ++ [ring f g i]
/-- what the rings are as the law asks it -/
structure Up (n : Nat) (f g : Int → Int) (i : Nat) (rs : List (List Int)) : Prop where
  nd : rs.flatten.Nodup
  cl : ∀ x ∈ rs.flatten, 0 ≤ x ∧ x < (n : Int) ∧ f x ∈ rs.flatten ∧ g x ∈ rs.flatten
  low : ∀ x, 0 ≤ x → x < (i : Int) → x ∈ rs.flatten
  each : ∀ (j : Nat) (r : List Int), rs[j]? = some r → ∃ b, 0 ≤ b ∧ b < (n : Int) ∧ r = ring f g b ∧ ∀ x, 0 ≤ x → x < b → x ∈ (rs.take j).flatten
theorem acc_up {n : Nat} {f g : Int → Int} (hf : Inv2 n f) (hg : Inv2 n g) : ∀ i, i ≤ n → Up n f g i (acc f g i)
  | 0, _ => ⟨.nil, fun x hx => absurd hx List.not_mem_nil, fun x _ _ => by omega, fun j r e => by simp [acc] at e⟩
  | i + 1, hi => by
    have U := acc_up hf hg i (by omega)
    unfold acc
    split
    · rename_i hm
      refine ⟨U.nd, U.cl, fun x h0 h1 => ?_, U.each⟩
      by_cases h : x = (i : Int)
      · rw [h]; exact hm
      · exact U.low x h0 (by omega)
    · rename_i hm
      have i0 : (0 : Int) ≤ (i : Int) := by omega
      have i1 : (i : Int) < (n : Int) := by omega
      have out := ring_out hf hg i0 i1 U.cl hm
      have fl : (acc f g i ++ [ring f g i]).flatten = (acc f g i).flatten ++ ring f g i := by rw [List.flatten_append]; simp
      refine ⟨?_, ?_, ?_, ?_⟩
      · rw [fl, List.nodup_append]
        exact ⟨U.nd, ring_nd hf hg i0 i1, fun a ha c hc e => out c hc (e ▸ ha)⟩
      · intro x hx
        rw [fl] at hx ⊢
        rcases List.mem_append.mp hx with h | h
        · obtain ⟨a, c, d, e⟩ := U.cl x h
          exact ⟨a, c, List.mem_append_left _ d, List.mem_append_left _ e⟩
        · obtain ⟨a, c⟩ := ring_in hf hg i0 i1 h
          obtain ⟨d, e⟩ := ring_closed hf hg i0 i1 h
          exact ⟨a, c, List.mem_append_right _ d, List.mem_append_right _ e⟩
      · intro x h0 h1
        rw [fl]
        by_cases h : x = (i : Int)
        · rw [h]; exact List.mem_append_right _ (mem_ring_self hf hg i0 i1)
        · exact List.mem_append_left _ (U.low x h0 (by omega))
      · intro j r e
        by_cases h : j < (acc f g i).length
        · rw [List.getElem?_append_left h] at e
          obtain ⟨b, b0, b1, br, bl⟩ := U.each j r e
          refine ⟨b, b0, b1, br, fun x h0 h1 => ?_⟩
          rw [List.take_append_of_le_length (by omega)]
          exact bl x h0 h1
        · have hj : j = (acc f g i).length := by
            have := (List.getElem?_eq_some_iff.mp e).1
            rw [List.length_append, List.length_singleton] at this
            omega
          subst hj
          rw [List.getElem?_append_right (Nat.le_refl _), Nat.sub_self] at e
          have e' : ring f g i = r := by simpa using e
          refine ⟨i, i0, i1, e'.symm, fun x h0 h1 => ?_⟩
          rw [List.take_append_of_le_length (Nat.le_refl _), List.take_length]
          exact U.low x h0 h1
theorem Up.total {n : Nat} {f g : Int → Int} {rs : List (List Int)} (U : Up n f g n rs) : rs.flatten.length = n :=
  nodup_full U.nd fun x => ⟨fun h => ⟨(U.cl x h).1, (U.cl x h).2.1⟩, fun h => U.low x h.1 h.2⟩
/-- sorted keys of a full pairing -/
theorem sorted_range {n : Nat} {l : List Int} (hs : l.Pairwise (· ≤ ·)) (hn : l.Nodup) (h : ∀ x, x ∈ l ↔ 0 ≤ x ∧ x < (n : Int)) : l = (List.range n).map fun i : Nat => (i : Int) := by
  have hr : ((List.range n).map fun i : Nat => (i : Int)).Nodup := by
    rw [List.nodup_iff_pairwise_ne, List.pairwise_map]
    exact (List.nodup_range (n := n)).imp fun hab e => hab (by omega)
  have hp : l.Perm ((List.range n).map fun i : Nat => (i : Int)) := by
    rw [List.perm_ext_iff_of_nodup hn hr]
    intro x
    rw [h x, List.mem_map]
    constructor
    · rintro ⟨a, b⟩
      exact ⟨x.toNat, List.mem_range.mpr (by omega), by omega⟩
    · rintro ⟨i, hi, rfl⟩
      have := List.mem_range.mp hi
      omega
  refine hp.eq_of_pairwise (le := (· ≤ ·)) (fun a b _ _ h1 h2 => by omega) hs ?_
  rw [List.pairwise_map]
  exact (List.pairwise_lt_range (n := n)).imp fun h => by omega
/-! full_by -/
structure Fby (n : Nat) (ps : List (Int × Int)) (left : List Int) : Prop where
  lt : ∀ p ∈ ps, p.1 < p.2
  nd : (ends ps ++ left).Nodup
  mem : ∀ x, x ∈ ends ps ++ left ↔ 0 ≤ x ∧ x < (n : Int)
  up : ps.Pairwise fun a b => a.1 < b.1
  low : ∀ p ∈ ps, ∀ x ∈ left, p.1 < x
  rise : left.Pairwise (· < ·)
  len : 2 * ps.length + left.length = n
theorem Fby.full {n : Nat} {ps : List (Int × Int)} (h : Fby n ps []) : Full n ps := ⟨h.lt, by simpa using h.nd, by simpa using h.mem, h.up⟩
theorem Fby.start (n : Nat) : Fby n [] ((List.range n).map fun i : Nat => (i : Int)) := by
  refine ⟨fun p hp => absurd hp List.not_mem_nil, ?_, fun x => ?_, .nil, fun p hp => absurd hp List.not_mem_nil, ?_, by simp⟩
  · rw [ends_nil, List.nil_append, List.nodup_iff_pairwise_ne, List.pairwise_map]
    exact (List.nodup_range (n := n)).imp fun hab e => hab (by omega)
  · rw [ends_nil, List.nil_append, List.mem_map]
    constructor
    · rintro ⟨i, hi, rfl⟩
      have := List.mem_range.mp hi
      omega
    · rintro ⟨a, b⟩
      exact ⟨x.toNat, List.mem_range.mpr (by omega), by omega⟩
  · rw [List.pairwise_map]
    exact (List.pairwise_lt_range (n := n)).imp fun h => by omega
/-- one link more: the first one of what is left, and one of the others -/
theorem Fby.step {n : Nat} {ps : List (Int × Int)} {a : Int} {r : List Int} (h : Fby n ps (a :: r)) {j : Nat} {b : Int} (hj : r[j]? = some b) : Fby n (ps ++ [(a, b)]) (r.eraseIdx j) := by
  obtain ⟨lt, nd, mem, up, low, rise, len⟩ := h
  have hb : b ∈ r := List.mem_of_getElem? hj
  have hjl := (List.getElem?_eq_some_iff.mp hj).1
  have hp : (a :: r).Perm ([a, b] ++ r.eraseIdx j) := by
    refine List.Perm.cons _ ?_
    have hs : r = r.take j ++ b :: r.drop (j + 1) := by
      have e := (List.getElem?_eq_some_iff.mp hj).2
      rw [← e, List.getElem_cons_drop, List.take_append_drop]
    have he : r.eraseIdx j = r.take j ++ r.drop (j + 1) := List.eraseIdx_eq_take_drop_succ ..
    rw [he]
    conv => lhs; rw [hs]
    exact List.perm_middle
  have hq : (ends ps ++ (a :: r)).Perm (ends (ps ++ [(a, b)]) ++ r.eraseIdx j) := by
    rw [ends_append, List.append_assoc]
    exact List.Perm.append_left _ hp
  have rs := List.pairwise_cons.mp rise
  have sub : (r.eraseIdx j).Sublist r := List.eraseIdx_sublist ..
  refine ⟨fun p hp => ?_, hq.nodup_iff.mp nd, fun x => by rw [← hq.mem_iff]; exact mem x, ?_, ?_, rs.2.sublist sub, ?_⟩
  · rcases List.mem_append.mp hp with z | z
    · exact lt p z
    · cases List.mem_singleton.mp z; exact rs.1 b hb
  · rw [List.pairwise_append]
    exact ⟨up, List.pairwise_singleton _ _, fun p hp q hq => by cases List.mem_singleton.mp hq; exact low p hp a (List.mem_cons_self ..)⟩
  · intro p hp x hx
    rcases List.mem_append.mp hp with z | z
    · exact low p z x (List.mem_cons_of_mem _ (sub.mem hx))
    · cases List.mem_singleton.mp z; exact rs.1 x (sub.mem hx)
  · rw [List.length_append, List.length_singleton, List.length_eraseIdx_of_lt hjl]
    rw [List.length_cons] at len
    omega
/-! changed -/
/-- two links changed for two others -/
theorem Full.changed {n : Nat} {ps qs : List (Int × Int)} {o1 o2 a b : Int × Int} (h : Full n ps) (h1 : o1 ∈ ps) (h2 : o2 ∈ ps) (hne : o1 ≠ o2)
    (ha : a.1 < a.2) (hb : b.1 < b.2) (hab : (ends [a, b]).Perm (ends [o1, o2])) (hq : qs.Perm ((ps.filter fun p => decide (p ≠ o1) && decide (p ≠ o2)) ++ [a, b])) (hs : qs.Pairwise fun x y => x.1 ≤ y.1) : Full n qs := by
  have ndp : ps.Nodup := h.up.imp fun {x y} (z : x.1 < y.1) e => by rw [e] at z; omega
  have hpp : ps.Perm ((ps.filter fun p => decide (p ≠ o1) && decide (p ≠ o2)) ++ [o1, o2]) := by
    rw [List.perm_ext_iff_of_nodup ndp]
    · intro x
      simp only [List.mem_append, List.mem_filter, List.mem_cons, List.not_mem_nil, or_false, Bool.and_eq_true, decide_eq_true_eq]
      constructor
      · intro hx
        by_cases e1 : x = o1
        · exact .inr (.inl e1)
        · by_cases e2 : x = o2
          · exact .inr (.inr e2)
          · exact .inl ⟨hx, e1, e2⟩
      · rintro (⟨hx, _⟩ | rfl | rfl)
        · exact hx
        · exact h1
        · exact h2
    · rw [List.nodup_append]
      refine ⟨ndp.sublist List.filter_sublist, by simp [hne], fun x hx y hy e => ?_⟩
      subst e
      simp only [List.mem_filter, Bool.and_eq_true, decide_eq_true_eq] at hx
      simp only [List.mem_cons, List.not_mem_nil, or_false] at hy
      rcases hy with e | e
      · exact hx.2.1 e
      · exact hx.2.2 e
  have he : (ends ps).Perm (ends qs) := by
    refine (ends_perm hpp).trans (.trans ?_ (ends_perm hq).symm)
    rw [ends_append, ends_append]
    exact List.Perm.append_left _ hab.symm
  have ndq : (ends qs).Nodup := he.nodup_iff.mp h.nd
  refine ⟨fun p hp => ?_, ndq, fun x => by rw [← he.mem_iff]; exact h.mem x, ?_⟩
  · have := hq.mem_iff.mp hp
    rcases List.mem_append.mp this with z | z
    · exact h.lt p (List.mem_filter.mp z).1
    · simp only [List.mem_cons, List.not_mem_nil, or_false] at z
      rcases z with rfl | rfl
      · exact ha
      · exact hb
  · clear he hq
    induction qs with
    | nil => exact .nil
    | cons q r ih =>
      rw [ends_cons, List.nodup_cons, List.nodup_cons] at ndq
      rw [List.pairwise_cons] at hs ⊢
      refine ⟨fun p hp => ?_, ih hs.2 ndq.2.2⟩
      have l := hs.1 p hp
      have ne : q.1 ≠ p.1 := fun e => ndq.1 (List.mem_cons_of_mem _ (mem_ends.mpr ⟨p, hp, .inl e⟩))
      omega
end M6
/-! ### full pairings on the heap -/
namespace L2
open PySem PySem.Spec PyProof.Rows
section
variable {X : Cx} {K : PySem.W.Frag}
theorem op_neDK (hu : X.A.units + 64 < cLine) (h : X.K = K := by rfl) : OpR X (compareOp .NotEq) (fun x y H Q => ∃ da db, RdD K H x da ∧ RdD K H y db ∧ SeqAt.shaped da = true ∧ SeqAt.shaped db = true ∧ Q (.bl (!PyData.eqv da db)) H) := by
  subst h; exact op_neD hu
end
end L2
namespace M6
open PySem L2 PyProof.Rows K3
def mk6 (ps : List (Int × Int)) : List (Key × V) := ps.flatMap fun p => [((Sum.inl p.1 : Key), V.int p.2), ((Sum.inl p.2 : Key), V.int p.1)]
theorem mk6_keys : ∀ ps : List (Int × Int), (mk6 ps).map Prod.fst = (ends ps).map fun x => (Sum.inl x : Key)
  | [] => rfl
  | p :: r => by
    have := mk6_keys r
    show (Sum.inl p.1 : Key) :: Sum.inl p.2 :: (mk6 r).map Prod.fst = _
    rw [this]; rfl
theorem mk6_append (ps qs : List (Int × Int)) : mk6 (ps ++ qs) = mk6 ps ++ mk6 qs := by simp [mk6]
theorem mk6_len (ps : List (Int × Int)) : (mk6 ps).length = 2 * ps.length := by
  have := congrArg List.length (mk6_keys ps)
  rw [List.length_map, List.length_map, ends_len] at this
  exact this
theorem mk6_val {ps : List (Int × Int)} (nd : (ends ps).Nodup) {x : Int} (h : x ∈ ends ps) : valV (mk6 ps) (Sum.inl x) = some (.int (mt ps x)) := by
  refine valV_of_mem (by have := mk6_keys ps; rw [show (mk6 ps).map (·.1) = _ from this]; exact inl_nodup nd) ?_
  obtain ⟨p, hp, e⟩ := mem_ends.mp h
  obtain ⟨a, b⟩ := mt_of nd hp
  refine List.mem_flatMap.mpr ⟨p, hp, ?_⟩
  rcases e with rfl | rfl
  · rw [a]; exact List.mem_cons_self ..
  · rw [b]; exact List.mem_cons_of_mem _ (List.mem_cons_self ..)
theorem none_keys {kvs : List (Key × V)} {xs : List Int} (h : kvs.map (·.1) = xs.map fun x => (Sum.inl x : Key)) {x : Int} (hx : ¬ x ∈ xs) : valV kvs (Sum.inl x) = none := by
  have := isSome_keys h x
  rw [decide_eq_false hx] at this
  exact Option.not_isSome_iff_eq_none.mp (by rw [this]; exact Bool.false_ne_true)
theorem mk6_step {ps : List (Int × Int)} (nd : (ends ps).Nodup) {i : Nat} {p : Int × Int} (hp : ps[i]? = some p) : putK (putK (mk6 (ps.take i)) (Sum.inl p.1) (.int p.2)) (Sum.inl p.2) (.int p.1) = mk6 (ps.take (i + 1)) := by
  have e : ps.take (i + 1) = ps.take i ++ [p] := by rw [List.take_add_one, hp]; rfl
  have nd2 : (ends (ps.take (i + 1))).Nodup := by
    have : ends ps = ends (ps.take (i + 1)) ++ ends (ps.drop (i + 1)) := by rw [← ends_append, List.take_append_drop]
    rw [this] at nd
    exact (List.nodup_append.mp nd).1
  rw [e, ends_append] at nd2
  obtain ⟨n1, n2, n3⟩ := List.nodup_append.mp nd2
  have h1 : ¬ p.1 ∈ ends (ps.take i) := fun h => n3 _ h _ (List.mem_cons_self ..) rfl
  have h2 : ¬ p.2 ∈ ends (ps.take i) := fun h => n3 _ h _ (List.mem_cons_of_mem _ (List.mem_cons_self ..)) rfl
  have h3 : p.1 ≠ p.2 := fun h => by
    rw [ends_cons, List.nodup_cons] at n2
    exact n2.1 (by rw [h]; exact List.mem_cons_self ..)
  rw [putK_new _ (none_keys (mk6_keys _) h1)]
  rw [putK_new]
  · rw [e, mk6_append, List.append_assoc]; rfl
  · refine none_keys (xs := ends (ps.take i) ++ [p.1]) ?_ ?_
    · rw [List.map_append, List.map_append, show (mk6 (ps.take i)).map (·.1) = _ from mk6_keys _]; rfl
    · intro h
      rcases List.mem_append.mp h with z | z
      · exact h2 z
      · exact h3 (List.mem_singleton.mp z).symm
def Dct (n : Nat) (kvs : List (Key × V)) (f : Int → Int) : Prop := ∀ x : Int, 0 ≤ x → x < (n : Int) → valV kvs (Sum.inl x) = some (.int (f x))
theorem Full.dct {n : Nat} {ps : List (Int × Int)} (h : Full n ps) : Dct n (mk6 ps) (mt ps) := fun x h0 h1 => mk6_val h.nd ((h.mem x).mpr ⟨h0, h1⟩)
theorem dg {H : Hp} {a : Addr} {kvs : List (Key × V)} {x : Int} {v : V} (e : H a = some (.dK kvs)) (h : valV kvs (Sum.inl x) = some v) : DGet H a (.int x) (some v) := h ▸ DGet.k (k := Sum.inl x) e
def lenL : Option HO → Nat
  | some (.lst xs) => xs.length
  | _ => 0
def intO : Option (Option V) → Int
  | some (some (.int i)) => i
  | _ => 0
/-- all but one address stay -/
def But (c : Addr) (H H' : Hp) : Prop := ∀ x o, x ≠ c → H x = some o → H' x = some o
theorem But.same {c : Addr} {H₀ H H' : Hp} (e : Same H₀ H) (h : H₀ c = none) (b : But c H H') : Same H₀ H' := fun x o z => b x o (ne_of_none z h) (e x o z)
theorem But.refl (c : Addr) (H : Hp) : But c H H := fun _ _ _ h => h
theorem But.step {c : Addr} {H H' H2 : Hp} (b : But c H H') (s : Same H' H2) : But c H H2 := fun x o h z => s x o (b x o h z)
theorem But.put {c : Addr} {H H' : Hp} {o : HO} (b : But c H H') : But c H (upd H' c o) := fun x u h z => by rw [upd_ne h]; exact b x u h z
theorem LR.but {c : Addr} {H H' : Hp} {l : Addr} {pss : List (List Int)} {kvs : List (Key × V)} (b : But c H H') (hc : H c = some (.dK kvs)) (h : LR H l pss) : LR H' l pss := by
  obtain ⟨rs, h1, h2⟩ := h
  exact ⟨rs, b _ _ (ne_of h1 hc (by intro z; cases z)) h1, Paired.mapP h2 fun r ps z => b _ _ (ne_of (show H r = some (.lst _) from z) hc (by intro z; cases z)) z⟩
theorem PL.but {c : Addr} {H H' : Hp} {l : Addr} {ps : List (Int × Int)} {kvs : List (Key × V)} (b : But c H H') (hc : H c = some (.dK kvs)) (h : PL H l ps) : PL H' l ps := by
  obtain ⟨rs, h1, h2⟩ := h
  exact ⟨rs, b _ _ (ne_of h1 hc (by intro z; cases z)) h1, Paired.mapP h2 fun r p z => b _ _ (ne_of (show H r = some (.tup _) from z) hc (by intro z; cases z)) z⟩
theorem LL.but {c : Addr} {H₀ H H' : Hp} {l : Addr} {pss : List (List Int)} {kvs : List (Key × V)} (b : But c H H') (hc : H c = some (.dK kvs)) (h : LL H₀ H l pss) : LL H₀ H' l pss := by
  obtain ⟨h0, rs, h1, h2⟩ := h
  exact ⟨h0, rs, b _ _ (ne_of h1 hc (by intro z; cases z)) h1, Paired.mapP h2 fun r ps z => ⟨z.1, b _ _ (ne_of (show H r = some (.lst _) from z.2) hc (by intro z; cases z)) z.2⟩⟩
theorem acc_few {n : Nat} {f g : Int → Int} (hf : Inv2 n f) (hg : Inv2 n g) {i : Nat} (hi : i ≤ n) : (acc f g i).flatten.length ≤ n ∧ (acc f g i).length ≤ i := by
  have U := acc_up hf hg i hi
  refine ⟨nodup_len n _ U.nd fun x hx => ⟨(U.cl x hx).1, (U.cl x hx).2.1⟩, ?_⟩
  clear U
  induction i with
  | zero => exact Nat.le_refl _
  | succ i ih =>
    unfold acc
    split
    · exact Nat.le_succ_of_le (ih (by omega))
    · rw [List.length_append, List.length_singleton]
      exact Nat.succ_le_succ (ih (by omega))
end M6
/-! ### worries: lists of triples on the heap -/
namespace M12
open PySem L2 PyProof.Rows K3
abbrev Tr := Int × Int × Int
def t3 (t : Tr) : HO := .tup [.int t.1, .int t.2.1, .int t.2.2]
def Trs (H : Hp) (rs : List Addr) (ts : List Tr) : Prop := Paired (fun r t => H r = some (t3 t)) rs ts
def TL (H : Hp) (l : Addr) (ts : List Tr) : Prop := ∃ rs : List Addr, H l = some (.lst (rs.map V.ref)) ∧ Trs H rs ts
theorem Trs.same {H H' : Hp} {rs : List Addr} {ts : List Tr} (e : Same H H') (h : Trs H rs ts) : Trs H' rs ts := Paired.mapP h fun _ _ q => e _ _ q
theorem TL.same {H H' : Hp} {l : Addr} {ts : List Tr} (e : Same H H') (h : TL H l ts) : TL H' l ts := let ⟨rs, a, b⟩ := h; ⟨rs, e _ _ a, b.same e⟩
theorem Trs.length {H : Hp} {rs : List Addr} {ts : List Tr} (h : Trs H rs ts) : rs.length = ts.length := Paired.length h
theorem Trs.upd {H : Hp} {rs : List Addr} {ts : List Tr} {p : Addr} {o : HO} (h : Trs H rs ts) (hp : ∀ q, H p ≠ some (t3 q)) : Trs (L2.upd H p o) rs ts := by
  refine Paired.mapP h fun r q e => ?_
  have hne : r ≠ p := fun z => hp q (z ▸ e)
  rw [upd_ne hne]; exact e
theorem lst_ne_t3 {H : Hp} {p : Addr} {xs : List V} (h : H p = some (.lst xs)) : ∀ q, H p ≠ some (t3 q) := fun q e => by rw [h] at e; cases e
def d3 (t : Tr) : PyData := .tuple [.int t.1, .int t.2.1, .int t.2.2]
theorem t3_rd {K : PySem.W.Frag} {H : Hp} {r : Addr} {t : Tr} (h : H r = some (t3 t)) : RdD K H (.ref r) (d3 t) := .tup (SqT.of h) (.cons (.int _) (.cons (.int _) (.cons (.int _) .nil)))
theorem Trs.rd {K : PySem.W.Frag} {H : Hp} : ∀ {rs : List Addr} {ts : List Tr}, Trs H rs ts → RdAll K H (rs.map V.ref) (ts.map d3)
  | _, _, .nil => .nil
  | _, _, .cons r t => .cons (t3_rd r) (Trs.rd t)
theorem TL.rd {K : PySem.W.Frag} {H : Hp} {l : Addr} {ts : List Tr} (h : TL H l ts) : RdD K H (.ref l) (.list (ts.map d3)) := let ⟨_, a, b⟩ := h; .lst (SqL.of a) b.rd
theorem d3_small (t : Tr) : (d3 t).canLay0 = true ∧ (d3 t).depth ≤ 8 := ⟨by simp [d3, PyData.canLay0, PyData.canLayAll0], by simp [d3, PyData.depth, PyData.depthAll]⟩
theorem tl_snoc {H : Hp} {l r : Addr} {ts : List Tr} {t : Tr} {rs : List Addr} (h : H l = some (.lst (rs.map V.ref))) (pr : Trs H rs ts) (ht : H r = some (t3 t)) : TL (L2.upd H l (.lst (rs.map V.ref ++ [.ref r]))) l (ts ++ [t]) := by
  refine ⟨rs ++ [r], by rw [upd_same, List.map_append]; rfl, ?_⟩
  exact Trs.upd (pairedApp pr (.cons ht .nil)) (lst_ne_t3 h)
/-- links of n places, each once, with worries -/
def lk3 (t : Tr) : Int × Int := (t.1, t.2.1)
structure Rows (n : Int) (ts : List Tr) : Prop where
  rng : ∀ t ∈ ts, 0 ≤ t.1 ∧ t.1 < t.2.1 ∧ t.2.1 < n
  nd : (ts.map lk3).Nodup
theorem Rows.rev {n : Int} {ts : List Tr} (h : Rows n ts) : Rows n ts.reverse := ⟨fun t ht => h.rng t (List.mem_reverse.mp ht), by rw [List.map_reverse]; exact List.pairwise_reverse.mpr (h.nd.imp Ne.symm)⟩
theorem Rows.perm {n : Int} {ts us : List Tr} (h : Rows n ts) (p : us.Perm ts) : Rows n us := ⟨fun t ht => h.rng t (p.mem_iff.mp ht), (p.map lk3).nodup_iff.mpr h.nd⟩
/-- the worry of a link -/
def wOf (ts : List Tr) (p : Int × Int) : Int := match ts.find? (fun t => decide (lk3 t = p)) with | some t => t.2.2 | none => 0
theorem wOf_mem {ts : List Tr} (nd : (ts.map lk3).Nodup) {t : Tr} (h : t ∈ ts) : wOf ts (lk3 t) = t.2.2 := by
  unfold wOf
  induction ts with
  | nil => cases h
  | cons a r ih =>
    rw [List.map_cons, List.nodup_cons] at nd
    rw [List.find?_cons]
    rcases List.mem_cons.mp h with e | e
    · subst e
      rw [decide_eq_true rfl]
    · have hne : ¬ lk3 a = lk3 t := fun z => nd.1 (by rw [z]; exact List.mem_map.mpr ⟨t, e, rfl⟩)
      rw [decide_eq_false hne]
      exact ih nd.2 e
def sumW (ts : List Tr) (ps : List (Int × Int)) : Int := (ps.map (wOf ts)).foldl (· + ·) 0
theorem foldl_add (l : List Int) : ∀ a : Int, l.foldl (· + ·) a = a + l.foldl (· + ·) 0 := by
  induction l with
  | nil => intro a; simp
  | cons x r ih =>
    intro a
    rw [List.foldl_cons, List.foldl_cons, ih (a + x), ih (0 + x)]
    omega
theorem sumW_nil (ts : List Tr) : sumW ts [] = 0 := rfl
theorem sumW_snoc (ts : List Tr) (ps : List (Int × Int)) (p : Int × Int) : sumW ts (ps ++ [p]) = sumW ts ps + wOf ts p := by
  unfold sumW
  rw [List.map_append, List.foldl_append]; rfl
theorem sumW_perm (ts : List Tr) {ps qs : List (Int × Int)} (h : ps.Perm qs) : sumW ts ps = sumW ts qs := by
  unfold sumW
  have : (ps.map (wOf ts)).Perm (qs.map (wOf ts)) := h.map _
  exact this.foldl_eq' (fun x _ y _ z => by omega) 0
theorem depth_mem : ∀ {A : List PyData} {k : Nat}, (∀ d ∈ A, d.depth ≤ k) → PyData.depthAll A ≤ k
  | [], _, _ => Nat.zero_le _
  | a :: A, k, h => by
    show max a.depth (PyData.depthAll A) ≤ k
    exact Nat.max_le.mpr ⟨h a (List.mem_cons_self ..), depth_mem fun d hd => h d (List.mem_cons_of_mem _ hd)⟩
theorem lay_mem : ∀ {A : List PyData}, (∀ d ∈ A, d.canLay0 = true) → PyData.canLayAll0 A = true
  | [], _ => rfl
  | a :: A, h => by
    show (a.canLay0 && PyData.canLayAll0 A) = true
    rw [h a (List.mem_cons_self ..), lay_mem fun d hd => h d (List.mem_cons_of_mem _ hd)]; rfl
/-- data that is small enough to be held against other data -/
def Sml (k : Nat) (d : PyData) : Prop := d.canLay0 = true ∧ d.depth ≤ k
theorem sml_list {A : List PyData} {k : Nat} (h : ∀ d ∈ A, Sml k d) : Sml (k + 1) (.list A) := by
  refine ⟨lay_mem fun d hd => (h d hd).1, ?_⟩
  have := depth_mem fun d hd => (h d hd).2
  simp only [PyData.depth]; omega
theorem Sml.shaped {d : PyData} {k : Nat} (h : Sml k d) (hk : k ≤ 64) : SeqAt.shaped d = true := by
  unfold SeqAt.shaped
  rw [h.1, decide_eq_true (Nat.le_trans h.2 hk)]; rfl
theorem sml_d3 (ts : List Tr) : Sml 9 (.list (ts.map d3)) := sml_list fun d hd => by
  obtain ⟨t, _, rfl⟩ := List.mem_map.mp hd
  exact d3_small t
theorem sml_dp (ps : List (Int × Int)) : Sml 9 (.list (ps.map dp)) := sml_list fun d hd => by
  obtain ⟨p, _, rfl⟩ := List.mem_map.mp hd
  exact ⟨by simp [dp, PyData.canLay0, PyData.canLayAll0], dp_depth p⟩
end M12
/-! ### lists of pairs: one more behind, sorted ones -/
namespace M12
open PySem L2 PyProof.Rows K3
theorem pl_snoc {H : Hp} {l t : Addr} {ps : List (Int × Int)} {p : Int × Int} {rs : List Addr} (h : H l = some (.lst (rs.map V.ref))) (pr : Prs H rs ps) (ht : H t = some (tp p)) : PL (upd H l (.lst (rs.map V.ref ++ [.ref t]))) l (ps ++ [p]) := by
  refine ⟨rs ++ [t], by rw [upd_same, List.map_append]; rfl, ?_⟩
  exact Prs.upd (pairedApp pr (.cons ht .nil)) (lst_ne_tp h)
def t2 (p : Int × Int) : List Int := [p.1, p.2]
theorem prs_ti {H : Hp} {rs : List Addr} {ps : List (Int × Int)} (h : Prs H rs ps) : Paired (fun r t => TI2 H r t) rs (ps.map t2) := by
  induction h with
  | nil => exact .nil
  | cons h _ ih => exact .cons h ih
theorem ti_prs {H : Hp} : ∀ {rs : List Addr} {ts : List (List Int)}, Paired (fun r t => TI2 H r t) rs ts → ∀ {ps : List (Int × Int)}, ts = ps.map t2 → Prs H rs ps
  | _, _, .nil, [], _ => .nil
  | _, _, .nil, _ :: _, e => by cases e
  | _, _, .cons _ _, [], e => by cases e
  | _, _, .cons h t, p :: ps, e => by
    rw [List.map_cons] at e
    injection e with e1 e2
    subst e1
    exact .cons h (ti_prs t e2)
theorem t2_of {ts : List (List Int)} {ps : List (Int × Int)} (h : ts.Perm (ps.map t2)) : ∃ qs : List (Int × Int), ts = qs.map t2 ∧ qs.Perm ps := by
  refine ⟨ts.map fun t => (t.getD 0 0, t.getD 1 0), ?_, ?_⟩
  · rw [List.map_map]
    have e : ts.map (t2 ∘ fun t : List Int => (t.getD 0 0, t.getD 1 0)) = ts.map id := List.map_congr_left fun t ht => by
      obtain ⟨p, _, rfl⟩ := List.mem_map.mp (h.mem_iff.mp ht)
      rfl
    rw [e, List.map_id]
  · have := h.map fun t : List Int => (t.getD 0 0, t.getD 1 0)
    rw [List.map_map] at this
    have e : ((fun t : List Int => (t.getD 0 0, t.getD 1 0)) ∘ t2) = id := funext fun p => rfl
    rw [e, List.map_id] at this
    exact this
theorem lex_le {a b : Int × Int} (h : HT.lexLt (t2 b) (t2 a) = false) : a.1 ≤ b.1 := by
  have h' : HT.lexLt (b.1 :: [b.2]) (a.1 :: [a.2]) = false := h
  rw [HT.lexLt_cons] at h'
  by_cases e : b.1 = a.1
  · omega
  · rw [if_neg e] at h'
    have := of_decide_eq_false h'
    omega
end M12
/-! ### OWN EXTENSION: items of a display by their kinds (the rest of the display stays closed) -/
namespace L2
open PySem PySem.Spec PyProof.Rows
section
variable {X : Cx} {es as : List Expr} {te : TE} {t : TA} {p : Pos} {k : Nat} {v : Const} {l r : Expr} {o : Operator} {u : UnaryOp} {x : Str} {ks : List Keyword}
theorem pa_con (ha : PE X (.Constant v k p) te) (hr : PA X es t) : PA X (.Constant v k p :: es) (tCons te t) := pa_cons ha hr rfl
theorem pa_tp (ha : PE X (.Tuple as k p) te) (hr : PA X es t) : PA X (.Tuple as k p :: es) (tCons te t) := pa_cons ha hr rfl
theorem pa_ls (ha : PE X (.List as p) te) (hr : PA X es t) : PA X (.List as p :: es) (tCons te t) := pa_cons ha hr rfl
theorem pa_bi (ha : PE X (.BinOp l o r p) te) (hr : PA X es t) : PA X (.BinOp l o r p :: es) (tCons te t) := pa_cons ha hr rfl
theorem pa_un (ha : PE X (.UnaryOp u l p) te) (hr : PA X es t) : PA X (.UnaryOp u l p :: es) (tCons te t) := pa_cons ha hr rfl
theorem pa_nm (ha : PE X (.Name x p) te) (hr : PA X es t) : PA X (.Name x p :: es) (tCons te t) := pa_cons ha hr rfl
theorem pa_ca (ha : PE X (.Call l as ks p) te) (hr : PA X es t) : PA X (.Call l as ks p :: es) (tCons te t) := pa_cons ha hr rfl
end
end L2
/-! ### OWN EXTENSION: tests whose answer does not matter -/
namespace L2
open PySem PySem.Spec PyProof.Rows
def AnyT (t : TT) (σ : St) (H : Hp) : Prop := ∀ Q : Bool → Hp → Prop, (∀ b, Q b H) → t σ H Q
section
variable {t u : TT} {σ : St} {H : Hp}
theorem any_or (ha : AnyT t σ H) (hb : AnyT u σ H) : AnyT (tOr t u) σ H := fun Q q => ha _ fun _ => ite2 (fun _ => q true) (fun _ => hb Q q)
theorem any_and (ha : AnyT t σ H) (hb : AnyT u σ H) : AnyT (tAnd t u) σ H := fun Q q => ha _ fun _ => ite2 (fun _ => hb Q q) (fun _ => q false)
theorem any_if {a b : TS} {D : Ends} (h : AnyT t σ H) (ha : a D σ H) (hb : b D σ H) : tIfS t a b D σ H := h _ fun _ => ite2 (fun _ => ha) (fun _ => hb)
theorem any_ifS {a r : TS} {D : Ends} (h : AnyT t σ H) (ha : a { D with nx := r D } σ H) (hb : r D σ H) : tSeq (tIfS t a tNext) r D σ H := any_if h ha hb
end
end L2
/-! ### OWN EXTENSION: sum of a list of ints; x += e -/
namespace L2
open PySem PySem.Spec PyProof.Rows PySem.W
section
variable {X : Cx}
def rSumI (K : PySem.W.Frag) : List V → Hp → VK → Prop := fun xs H Q => ∃ (l : Addr) (ns : List Int), xs = [.ref l] ∧ SqL K H l (ns.map V.int) ∧ Q (.int ns.sum) H
theorem call_sumI (hc : X.calm = true) : CallR X (.builtin "sum") (rSumI X.K) := by
  intro pins s σ H xs us Q I r h
  obtain ⟨l, ns, rfl, hl, q⟩ := h
  obtain ⟨u, rfl, ru⟩ := vals1 r
  cases ru
  obtain ⟨its, rv, pl, hz⟩ := I.list hl
  have hi := intsAre_of rv
  obtain ⟨xs, hx⟩ := hi.allInts.items
  have hl' : s.heap.IsList l (intItems xs) := hx ▸ pl.isList
  refine sum_intListG (I.ok.hd hc) hl' fun h' tk t' hk => ?_
  have e1 : ns = xs.toList.map (·.1) := by
    rw [← nums_intItems, ← hx]
    exact (show numsOf its.toArray.toList = ns from hi.numsOf).symm
  have e2 : preSum (numAt xs) xs.size = ns.sum := by
    rw [preSum_eq, List.take_of_length_le (by simp), e1]
  rw [e2]
  exact ⟨.int ns.sum, H, I.kept hk, ⟨t', rfl⟩, q⟩
end
end L2
/-! ### texts of sides -/
namespace L2
open PySem PySem.Spec PyProof.Rows
/-- an if whose answer does not matter, by what holds of the locals behind it -/
theorem any_ifP {t : TT} {σ : St} {H : Hp} {a r : TS} {D : Ends} (P : St → Prop) (h : AnyT t σ H) (ha : ∀ D' : Ends, (∀ σ', P σ' → D'.nx σ' H) → a D' σ H) (hσ : P σ) (hr : ∀ σ', P σ' → r D σ' H) : tSeq (tIfS t a tNext) r D σ H :=
  any_ifS h (ha _ hr) (hr σ hσ)
theorem any_ifE {t : TT} {σ : St} {H : Hp} {a b r : TS} {D : Ends} (P : St → Prop) (h : AnyT t σ H) (ha : ∀ D' : Ends, (∀ σ', P σ' → D'.nx σ' H) → a D' σ H) (hb : ∀ D' : Ends, (∀ σ', P σ' → D'.nx σ' H) → b D' σ H) (hr : ∀ σ', P σ' → r D σ' H) : tSeq (tIfS t a b) r D σ H :=
  any_if h (ha _ hr) (hb _ hr)
end L2
namespace M26
open PySem L2 PyProof.Rows
def cw (b : Bool) : Nat := if b then 119 else 100
def sg (b : Bool) : Str := ⟨#[cw b]⟩
/-- w is true, d is false -/
def sS (bs : List Bool) : Str := ⟨(bs.map cw).toArray⟩
theorem sS_len (bs : List Bool) : (sS bs).length = bs.length := by simp [sS, Str.length]
theorem sS_size (bs : List Bool) : (sS bs).cps.size = bs.length := by simp [sS]
theorem sS_nil : sS [] = (Str.ofString "") := by decide +kernel
theorem sg_w : sg true = (Str.ofString "w") := by decide +kernel
theorem sg_d : sg false = (Str.ofString "d") := by decide +kernel
theorem sS_snoc (bs : List Bool) (b : Bool) : sS bs ++ sg b = sS (bs ++ [b]) := by
  show Str.mk ((bs.map cw).toArray ++ #[cw b]) = Str.mk ((bs ++ [b]).map cw).toArray
  rw [List.map_append]; simp
theorem sS_get {bs : List Bool} {i c : Nat} (h : (sS bs).cps[i]? = some c) : ∃ b, bs[i]? = some b ∧ c = cw b := by
  have h' : (bs.map cw)[i]? = some c := by simpa [sS] using h
  rw [List.getElem?_map] at h'
  obtain ⟨b, e, rfl⟩ := Option.map_eq_some_iff.mp h'
  exact ⟨b, e, rfl⟩
theorem sg_inj {a b : Bool} (h : sg a = sg b) : a = b := by
  cases a <;> cases b <;> first | rfl | (exact absurd h (by decide +kernel))
theorem sS_eq_nil {bs : List Bool} : sS bs = (Str.ofString "") ↔ bs = [] := by
  constructor
  · intro h
    have : (sS bs).cps.size = 0 := by rw [h]; decide +kernel
    rw [sS_size] at this
    exact List.length_eq_zero_iff.mp this
  · rintro rfl; exact sS_nil
def leanD (bs : List Bool) : Int := bs.foldl (fun h b => if b then h + 1 else h - 1) 0
theorem leanD_snoc (bs : List Bool) (b : Bool) : leanD (bs ++ [b]) = if b then leanD bs + 1 else leanD bs - 1 := by unfold leanD; rw [List.foldl_append]; rfl
theorem leanD_abs : ∀ bs : List Bool, -(bs.length : Int) ≤ leanD bs ∧ leanD bs ≤ bs.length := by
  intro bs
  suffices ∀ (l : List Bool) (h : Int), h - l.length ≤ l.foldl (fun h b => if b then h + 1 else h - 1) h ∧ l.foldl (fun h b => if b then h + 1 else h - 1) h ≤ h + l.length by
    have := this bs 0
    unfold leanD; omega
  intro l
  induction l with
  | nil => intro h; simp
  | cons b r ih =>
    intro h
    rw [List.foldl_cons, List.length_cons]
    have := ih (if b then h + 1 else h - 1)
    cases b
    · simp only [Bool.false_eq_true, if_false] at this ⊢; omega
    · simp only [if_true] at this ⊢; omega
/-- the side to which one is bound: none, some true for w -/
def boundD (bs : List Bool) : Option Bool :=
  if leanD bs > 1 then some false else if leanD bs < -1 then some true else
  match bs.reverse with
  | a :: b :: _ => if a = b then some (!a) else none
  | _ => none
def wishD (bs : List Bool) : Option Bool :=
  match boundD bs with
  | some b => some b
  | none => if leanD bs > 0 then some false else if leanD bs < 0 then some true else
    match bs.reverse with
    | a :: _ => some (!a)
    | [] => none
def oS : Option Bool → Str
  | none => (Str.ofString "")
  | some b => sg b
theorem oS_inj {a b : Option Bool} (h : oS a = oS b) : a = b := by
  cases a with
  | none =>
    cases b with
    | none => rfl
    | some b => cases b <;> exact absurd h (by decide +kernel)
  | some a =>
    cases b with
    | none => cases a <;> exact absurd h (by decide +kernel)
    | some b => rw [sg_inj h]
end M26
/-! ### ifs whose answer does not matter, with a heap that changes -/
namespace L2
open PySem PySem.Spec PyProof.Rows
theorem any_ifPH {t : TT} {σ : St} {H : Hp} {a r : TS} {D : Ends} (P : St → Hp → Prop) (h : AnyT t σ H) (ha : ∀ D' : Ends, (∀ σ' H', P σ' H' → D'.nx σ' H') → a D' σ H) (hσ : P σ H) (hr : ∀ σ' H', P σ' H' → r D σ' H') : tSeq (tIfS t a tNext) r D σ H :=
  any_ifS h (ha _ hr) (hr σ H hσ)
end L2
/-! ### who sits at the window -/
namespace M26
open PySem L2 PyProof.Rows
def absD (i : Int) : Int := if i < 0 then -i else i
/-- the first sits at the window -/
def sitsD (a b : List Bool) (turn : Int) : Bool :=
  if wishD a ≠ wishD b then (if wishD a = none then decide (wishD b = some false) else decide (wishD a = some true))
  else if wishD a = none then decide (turn % 2 = 0)
  else (if boundD a = none ∧ boundD b ≠ none then false else if boundD a = none ∧ boundD b = none then decide (absD (leanD b) ≤ absD (leanD a)) else true) == decide (wishD a = some true)
/-- not both bound to the same side -/
def Free2 (a b : List Bool) : Prop := boundD a = none ∨ boundD a ≠ boundD b
theorem wish_bound {a : List Bool} {x : Bool} (h : boundD a = some x) : wishD a = some x := by unfold wishD; rw [h]
theorem sits_first {a b : List Bool} {t : Int} {x : Bool} (hf : Free2 a b) (h : boundD a = some x) : sitsD a b t = x := by
  have wa := wish_bound h
  unfold sitsD
  by_cases e : wishD a = wishD b
  · rw [if_neg (fun z => z e), wa, if_neg (by simp)]
    have hb : boundD b = none := by
      cases hb : boundD b with
      | none => rfl
      | some y =>
        have := wish_bound hb
        rw [wa, this] at e
        cases e
        rcases hf with z | z
        · rw [h] at z; cases z
        · exact absurd (h.trans hb.symm) z
    rw [h, hb]
    cases x <;> rfl
  · rw [if_pos e, wa, if_neg (by simp)]
    cases x <;> rfl
theorem sits_second {a b : List Bool} {t : Int} {y : Bool} (hf : Free2 a b) (h : boundD b = some y) : sitsD a b t = !y := by
  have wb := wish_bound h
  unfold sitsD
  by_cases e : wishD a = wishD b
  · rw [if_neg (fun z => z e), e, wb, if_neg (by simp)]
    have ha : boundD a = none := by
      rcases hf with z | z
      · exact z
      · cases ha : boundD a with
        | none => rfl
        | some x =>
          have := wish_bound ha
          rw [this, wb] at e
          cases e
          exact absurd (ha.trans h.symm) z
    rw [h, ha]
    cases y <;> rfl
  · rw [if_pos e, wb]
    cases ha : wishD a with
    | none => cases y <;> rfl
    | some x =>
      rw [if_neg (by simp)]
      rw [ha, wb] at e
      cases x <;> cases y <;> first | rfl | exact absurd rfl e
def flipB (bs : List Bool) : List Bool := bs.map (!·)
theorem lean_flipB (bs : List Bool) : leanD (flipB bs) = -leanD bs := by
  suffices ∀ (l : List Bool) (h : Int), (flipB l).foldl (fun h b => if b then h + 1 else h - 1) (-h) = -(l.foldl (fun h b => if b then h + 1 else h - 1) h) by
    have := this bs 0
    unfold leanD; simpa using this
  intro l
  induction l with
  | nil => intro h; rfl
  | cons b r ih =>
    intro h
    show ((flipB r).foldl _ (if (!b) = true then -h + 1 else -h - 1)) = -(r.foldl _ (if b = true then h + 1 else h - 1))
    rw [← ih]
    congr 1
    cases b
    · simp; omega
    · simp; omega
theorem bound_flipB (bs : List Bool) : boundD (flipB bs) = (boundD bs).map (!·) := by
  have hr : (flipB bs).reverse = bs.reverse.map (!·) := by unfold flipB; rw [List.map_reverse]
  unfold boundD
  rw [lean_flipB, hr]
  by_cases h1 : leanD bs > 1
  · rw [if_neg (by omega), if_pos (by omega), if_pos h1]; rfl
  · by_cases h2 : leanD bs < -1
    · rw [if_pos (by omega), if_neg h1, if_pos h2]; rfl
    · rw [if_neg (by omega), if_neg (by omega), if_neg h1, if_neg h2]
      match bs.reverse with
      | [] => rfl
      | [_] => rfl
      | a :: b :: r =>
        show (if (!a) = (!b) then some (!!a) else none) = Option.map _ (if a = b then some (!a) else none)
        cases a <;> cases b <;> rfl
theorem free_flipB {a b : List Bool} {x : Bool} (h : boundD a = some x) (e : boundD a = boundD b) : Free2 a (flipB b) := .inr (by
  rw [bound_flipB, ← e, h]
  cases x <;> simp)
/-- a card on the heap -/
def CardH (H : Hp) (t : Addr) (bs : List Bool) : Prop := ∃ (nm : Str) (pts : Int) (m tb : Addr) (r : Bool) (xs ys : List V), H t = some (.tup [.str nm, .int pts, .str (sS bs), .ref m, .bl r, .ref tb]) ∧ H m = some (.tup xs) ∧ H tb = some (.tup ys)
theorem CardH.same {H H' : Hp} {t : Addr} {bs : List Bool} (e : Same H H') (h : CardH H t bs) : CardH H' t bs := by
  obtain ⟨nm, pts, m, tb, r, xs, ys, h1, h2, h3⟩ := h
  exact ⟨nm, pts, m, tb, r, xs, ys, e _ _ h1, e _ _ h2, e _ _ h3⟩
theorem flipB_snoc (bs : List Bool) (b : Bool) : flipB (bs ++ [b]) = flipB bs ++ [!b] := by unfold flipB; rw [List.map_append]; rfl
end M26
/-! ### OWN EXTENSION: x[lo:hi] of a text, sign for sign -/
namespace L2
open PySem PySem.Spec PyProof.Rows
section
variable {X : Cx}
def rSlP : V → Option Int → Option Int → Hp → VK → Prop := fun x lo hi H Q => ∃ z, x = .str z ∧ z.length ≤ sizeLine ∧ Q (.str (Txt.slice z lo hi)) H
theorem sl_strP : SlR X rSlP := by
  intro pins s σ H x v vl vu lo hi sl Q I rx hs pl pu h
  obtain ⟨z, rfl, hz, q⟩ := h
  obtain ⟨t, rfl⟩ := rx
  refine ⟨"str", _, F.slot_str_getitem.lookup, typeIs_str _ _ _, ?_⟩
  cases pl with
  | none => cases pu with
    | none => exact wpAny_getItem_str_slice (l := none) (u := none) (st := none) hs rfl (post_val_or_str ⟨Nat.le_trans (Txt.slice_le z _ _) hz, fun t' k => ⟨.str _, H, I.tok _, ⟨_, rfl⟩, q⟩⟩)
    | int j uj => exact wpAny_getItem_str_slice (l := none) (u := some (j, uj)) (st := none) hs rfl (post_val_or_str ⟨Nat.le_trans (Txt.slice_le z _ _) hz, fun t' k => ⟨.str _, H, I.tok _, ⟨_, rfl⟩, q⟩⟩)
  | int i ui => cases pu with
    | none => exact wpAny_getItem_str_slice (l := some (i, ui)) (u := none) (st := none) hs rfl (post_val_or_str ⟨Nat.le_trans (Txt.slice_le z _ _) hz, fun t' k => ⟨.str _, H, I.tok _, ⟨_, rfl⟩, q⟩⟩)
    | int j uj => exact wpAny_getItem_str_slice (l := some (i, ui)) (u := some (j, uj)) (st := none) hs rfl (post_val_or_str ⟨Nat.le_trans (Txt.slice_le z _ _) hz, fun t' k => ⟨.str _, H, I.tok _, ⟨_, rfl⟩, q⟩⟩)
end
/-- the place that a bound of a slice tells -/
def clS (n d : Nat) : Option Int → Nat
  | none => d
  | some v => (max 0 (min (if v < 0 then v + (n : Int) else v) (n : Int))).toNat
theorem clS_le {n d : Nat} (h : d ≤ n) (o : Option Int) : clS n d o ≤ n := by
  cases o with
  | none => exact h
  | some v => show (max 0 (min (if v < 0 then v + (n : Int) else v) (n : Int))).toNat ≤ n; omega
theorem range_pick {α : Type} (xs : List α) (a : Nat) : ∀ k, a + k ≤ xs.length → (((List.range k).map fun i => a + i).filterMap (xs[·]?)) = (xs.drop a).take k
  | 0, _ => by simp
  | k + 1, h => by
    have ih := range_pick xs a k (by omega)
    have hk : a + k < xs.length := by omega
    rw [List.range_succ, List.map_append, List.filterMap_append, ih, List.take_add_one, List.getElem?_drop]
    simp [hk]
theorem strIdx (l u : Option Int) (n : Nat) : Builtin.Str.strSliceIndices l u 1 n = (List.range (clS n n u - clS n 0 l)).map fun i => clS n 0 l + i := by
  have e : Builtin.Str.strSliceIndices l u 1 n = sliceRange ((clS n 0 l : Nat) : Int) ((clS n n u : Nat) : Int) 1 := by
    unfold Builtin.Str.strSliceIndices
    have h1 : ∀ v : Int, (max 0 (min (if v < 0 then v + (n : Int) else v) (n : Int))) = (((max 0 (min (if v < 0 then v + (n : Int) else v) (n : Int))).toNat : Nat) : Int) := fun v => by omega
    cases l with
    | none => cases u with
      | none => rfl
      | some v => show sliceRange 0 (max 0 (min (if v < 0 then v + (n : Int) else v) (n : Int))) 1 = _; rw [h1 v]; rfl
    | some w => cases u with
      | none => show sliceRange (max 0 (min (if w < 0 then w + (n : Int) else w) (n : Int))) (n : Int) 1 = _; rw [h1 w]; rfl
      | some v => show sliceRange (max 0 (min (if w < 0 then w + (n : Int) else w) (n : Int))) (max 0 (min (if v < 0 then v + (n : Int) else v) (n : Int))) 1 = _; rw [h1 v, h1 w]; rfl
  rw [e]
  generalize clS n 0 l = a
  generalize clS n n u = b
  show (List.range (if (1 : Int) > 0 then (if (a : Int) < (b : Int) then ((b : Int) - (a : Int) + 1 - 1) / 1 else 0) else (if (a : Int) > (b : Int) then ((a : Int) - (b : Int) - 1 - 1) / (-1) else 0)).toNat).map (fun (k : Nat) => ((a : Int) + 1 * (k : Int)).toNat) = _
  rw [if_pos (by decide)]
  have ec : (if (a : Int) < (b : Int) then ((b : Int) - (a : Int) + 1 - 1) / 1 else 0).toNat = b - a := by
    rw [Int.ediv_one]; split <;> omega
  rw [ec]
  exact List.map_congr_left fun k _ => by omega
theorem slice_cut (x : Str) (l u : Option Int) : (Txt.slice x l u).cps.toList = (x.cps.toList.drop (clS x.length 0 l)).take (clS x.length x.length u - clS x.length 0 l) := by
  have h1 : clS x.length 0 l ≤ x.length := clS_le (Nat.zero_le _) l
  have h2 : clS x.length x.length u ≤ x.length := clS_le (Nat.le_refl _) u
  have hn : x.cps.toList.length = x.length := by simp [Str.length]
  unfold Txt.slice
  rw [strIdx]
  split
  · rename_i h
    simp only [List.length_map, List.length_range, Bool.and_eq_true, beq_iff_eq] at h
    have ha : clS x.length 0 l = 0 ∨ x.length = 0 := by omega
    rw [List.take_of_length_le (by rw [List.length_drop]; omega)]
    rcases ha with z | z
    · rw [z]; rfl
    · have : x.cps.toList = [] := List.length_eq_zero_iff.mp (by omega)
      rw [this]; simp
  · show ((List.map _ _).filterMap (x.cps[·]?)) = _
    have := range_pick x.cps.toList (clS x.length 0 l) (clS x.length x.length u - clS x.length 0 l) (by omega)
    rw [← this]
    simp
end L2
/-! ### the last two signs -/
namespace M26
open PySem L2 PyProof.Rows
theorem sS_toList (bs : List Bool) : (sS bs).cps.toList = bs.map cw := by simp [sS]
/-- x[-2:] -/
theorem last2 (bs : List Bool) : Txt.slice (sS bs) (some (-2)) none = sS (bs.drop (bs.length - 2)) := by
  have h := slice_cut (sS bs) (some (-2)) none
  have e1 : clS (sS bs).length 0 (some (-2)) = bs.length - 2 := by
    show (max 0 (min (if (-2 : Int) < 0 then -2 + ((sS bs).length : Int) else -2) ((sS bs).length : Int))).toNat = _
    rw [sS_len, if_pos (by decide)]; omega
  have e2 : clS (sS bs).length (sS bs).length none = bs.length := sS_len bs
  rw [e1, e2, sS_toList] at h
  have h2 : (Txt.slice (sS bs) (some (-2)) none).cps.toList = (sS (bs.drop (bs.length - 2))).cps.toList := by
    rw [h, sS_toList, List.map_drop, List.take_of_length_le (by rw [List.length_drop, List.length_map]; exact Nat.le_refl _)]
  have h3 : (Txt.slice (sS bs) (some (-2)) none).cps = (sS (bs.drop (bs.length - 2))).cps := Array.ext' h2
  cases e : Txt.slice (sS bs) (some (-2)) none
  rw [e] at h3
  cases e' : sS (bs.drop (bs.length - 2))
  rw [e'] at h3
  exact congrArg Str.mk h3
theorem sS_inj {a b : List Bool} (h : sS a = sS b) : a = b := by
  have h2 : a.map cw = b.map cw := by rw [← sS_toList, ← sS_toList, h]
  exact (List.map_inj_right (fun x y e => by cases x <;> cases y <;> first | rfl | (simp [cw] at e))).mp h2
theorem sS_ww : sS [true, true] = Str.ofString "ww" := by decide +kernel
theorem sS_dd : sS [false, false] = Str.ofString "dd" := by decide +kernel
theorem drop2 {bs r : List Bool} {a b : Bool} (h : bs.reverse = a :: b :: r) : bs.drop (bs.length - 2) = [b, a] := by
  have e : bs = r.reverse ++ [b, a] := by rw [← List.reverse_reverse bs, h, List.reverse_cons, List.reverse_cons, List.append_assoc]; rfl
  rw [e, List.length_append]
  simp
/-- the last two are both x -/
def Last2 (bs : List Bool) (x : Bool) : Prop := bs.drop (bs.length - 2) = [x, x]
theorem bound_last {bs : List Bool} (h1 : ¬ leanD bs > 1) (h2 : ¬ leanD bs < -1) : boundD bs = if bs.drop (bs.length - 2) = [true, true] then some false else if bs.drop (bs.length - 2) = [false, false] then some true else none := by
  unfold boundD
  rw [if_neg h1, if_neg h2]
  match hrev : bs.reverse with
  | [] =>
    have : bs = [] := by simpa using hrev
    rw [this]; rfl
  | [x] =>
    have e : bs = [x] := by
      have := congrArg List.reverse hrev
      simpa using this
    rw [e]; cases x <;> rfl
  | a :: b :: r =>
    rw [drop2 hrev]
    cases a <;> cases b <;> rfl
end M26
/-! ### methods of texts: count, endswith, join -/
namespace L2
open PySem PySem.Spec PyProof.Rows
section
variable {X : Cx}
def rCnt : V → List V → Hp → VK → Prop := fun x vs H Q => ∃ z y, x = .str z ∧ vs = [.str y] ∧ Q (.int (Txt.count z y)) H
theorem mt_count : MtR X "str.count" rCnt := by
  intro pins s σ H x vs v us Q I rx rv h
  obtain ⟨z, y, rfl, rfl, q⟩ := h
  obtain ⟨t, rfl⟩ := rx
  obtain ⟨u, rfl, ru⟩ := rv.one
  obtain ⟨t', rfl⟩ := ru
  exact SC.count ⟨.int _, H, I.tok _, ⟨_, rfl⟩, q⟩
def rEnds : V → List V → Hp → VK → Prop := fun x vs H Q => ∃ z y, x = .str z ∧ vs = [.str y] ∧ Q (.bl (Txt.endswith z y)) H
theorem mt_endswith : MtR X "str.endswith" rEnds := by
  intro pins s σ H x vs v us Q I rx rv h
  obtain ⟨z, y, rfl, rfl, q⟩ := h
  obtain ⟨t, rfl⟩ := rx
  obtain ⟨u, rfl, ru⟩ := rv.one
  obtain ⟨t', rfl⟩ := ru
  exact SC.endswith ⟨.bl _, H, I, rfl, q⟩
theorem vals_strs : ∀ {zs : List Str} {its : List Value}, Vals (zs.map V.str) its → ∃ l : List (Str × Tok), its = strValues l ∧ l.map (·.1) = zs
  | [], _, r => by
    cases r
    exact ⟨[], rfl, rfl⟩
  | z :: zs, _, r => by
    cases r with
    | cons h r' =>
      obtain ⟨t, rfl⟩ := h
      obtain ⟨l, rfl, e⟩ := vals_strs r'
      exact ⟨(z, t) :: l, rfl, by rw [List.map_cons, e]⟩
def rJoin (K : PySem.W.Frag) : V → List V → Hp → VK → Prop := fun x vs H Q => ∃ z a zs, x = .str z ∧ vs = [.ref a] ∧ SqL K H a (zs.map V.str) ∧ JoinOk z zs = true ∧ Q (.str (Txt.join z zs)) H
theorem mt_join : MtR X "str.join" (rJoin X.K) := by
  intro pins s σ H x vs v us Q I rx rv h
  obtain ⟨z, a, zs, rfl, rfl, hq, jo, q⟩ := h
  obtain ⟨t, rfl⟩ := rx
  obtain ⟨u, rfl, ru⟩ := rv.one
  cases ru
  obtain ⟨its, r, pl, hz⟩ := I.list hq
  obtain ⟨l, rfl, e⟩ := vals_strs r
  exact SC.join (l := l) pl.isList e jo fun t' k => ⟨.str _, H, I.tok _, ⟨_, rfl⟩, q⟩
end
/-! how often a sign stands in a text -/
open PySem.StrLaws PySem.Builtin.Str in
theorem occ_one (x : Str) (c : Nat) : ∀ (n lo : Nat) (st : Array Nat × Nat), st.2 ≤ lo → st.1.size ≤ lo → lo + n = x.length + 1 →
    (forIn (List.range' lo n) st (occBody x ⟨#[c]⟩ x.length (x.length + 1))).run.fst.size = st.1.size + (x.cps.toList.drop lo).count c
  | 0, lo, st, _, _, e => by
    have hd : x.cps.toList.drop lo = [] := List.drop_eq_nil_of_le (by
      have : x.cps.toList.length = x.length := by simp [Str.length]
      omega)
    rw [hd]
    rfl
  | n + 1, lo, st, h1, h2, e => by
    rw [List.range'_succ, List.forIn_cons]
    unfold occBody
    by_cases hc : x.cps.toList[lo]? = some c
    · obtain ⟨g1, g2⟩ := (subAt_one x c lo).mpr hc
      rw [if_pos ⟨⟨⟨by omega, h1⟩, g1⟩, g2⟩]
      have ih := occ_one x c n (lo + 1) (st.1.push lo, lo + (⟨#[c]⟩ : Str).length) (Nat.le_refl _) (by simp only [Array.size_push]; omega) (by omega)
      obtain ⟨hlt, hv⟩ := List.getElem?_eq_some_iff.mp hc
      rw [List.drop_eq_getElem_cons hlt, hv, List.count_cons_self]
      refine Eq.trans ih ?_
      simp only [Array.size_push]
      omega
    · rw [if_neg (fun z => hc ((subAt_one x c lo).mp ⟨z.1.2, z.2⟩))]
      have ih := occ_one x c n (lo + 1) (st.1, st.2) (Nat.le_succ_of_le h1) (Nat.le_succ_of_le h2) (by omega)
      refine Eq.trans ih ?_
      by_cases hlt : lo < x.cps.toList.length
      · rw [List.drop_eq_getElem_cons hlt, List.count_cons_of_ne (fun z => hc (List.getElem?_eq_some_iff.mpr ⟨hlt, by first | exact z | exact z.symm⟩))]
      · rw [List.drop_eq_nil_of_le (Nat.le_of_not_lt hlt), List.drop_eq_nil_of_le (Nat.le_succ_of_le (Nat.le_of_not_lt hlt))]
theorem count_one (x : Str) (c : Nat) : Txt.count x ⟨#[c]⟩ = ((x.cps.toList.count c : Nat) : Int) := by
  unfold Txt.count
  rw [PySem.StrLaws.occ_eq, Array.length_toList]
  have h := occ_one x c (x.length + 1) 0 (#[], 0) (Nat.le_refl _) (Nat.le_refl _) (Nat.zero_add _)
  rw [Nat.sub_zero]
  refine congrArg _ (h.trans ?_)
  simp
end L2
/-! ### the signs of sides counted, and how they end -/
namespace M26
open PySem L2 PyProof.Rows
theorem lean_count (bs : List Bool) : Txt.count (sS bs) (Str.ofString "w") - Txt.count (sS bs) (Str.ofString "d") = leanD bs := by
  rw [← sg_w, ← sg_d]
  show Txt.count (sS bs) ⟨#[cw true]⟩ - Txt.count (sS bs) ⟨#[cw false]⟩ = _
  rw [count_one, count_one, sS_toList]
  suffices ∀ (l : List Bool) (h : Int), l.foldl (fun h b => if b then h + 1 else h - 1) h = h + (((l.map cw).count (cw true) : Nat) : Int) - (((l.map cw).count (cw false) : Nat) : Int) by
    have := this bs 0
    unfold leanD
    omega
  intro l
  induction l with
  | nil => intro h; simp
  | cons b r ih =>
    intro h
    cases b
    · have e := ih (h - 1)
      refine Eq.trans (show (false :: r).foldl (fun h b => if b then h + 1 else h - 1) h = r.foldl (fun h b => if b then h + 1 else h - 1) (h - 1) from rfl) (e.trans ?_)
      rw [List.map_cons, List.count_cons_self, List.count_cons_of_ne (by decide)]
      omega
    · have e := ih (h + 1)
      refine Eq.trans (show (true :: r).foldl (fun h b => if b then h + 1 else h - 1) h = r.foldl (fun h b => if b then h + 1 else h - 1) (h + 1) from rfl) (e.trans ?_)
      rw [List.map_cons, List.count_cons_self, List.count_cons_of_ne (by decide)]
      omega
theorem cw_inj {x y : Bool} (e : cw x = cw y) : x = y := by cases x <;> cases y <;> first | rfl | (simp [cw] at e)
theorem ends_sS (bs ys : List Bool) : Txt.endswith (sS bs) (sS ys) = decide (bs.drop (bs.length - ys.length) = ys) := by
  unfold Txt.endswith
  rw [PySem.StrLaws.subAt_eq, sS_toList, sS_toList, sS_len, sS_len]
  by_cases h : ys.length ≤ bs.length
  · rw [decide_eq_true (by omega : 0 + ys.length ≤ bs.length), Bool.true_and, List.take_of_length_le (by rw [List.length_drop, List.length_map]; omega), ← List.map_drop]
    rw [Bool.eq_iff_iff, beq_iff_eq, decide_eq_true_iff]
    exact List.map_inj_right (fun x y e => cw_inj e)
  · rw [decide_eq_false (by omega), Bool.false_and]
    refine (decide_eq_false fun z => ?_).symm
    have := congrArg List.length z
    rw [List.length_drop] at this
    omega
theorem drop1 {bs r : List Bool} {a : Bool} (h : bs.reverse = a :: r) : bs.drop (bs.length - 1) = [a] := by
  have e : bs = r.reverse ++ [a] := by rw [← List.reverse_reverse bs, h, List.reverse_cons]
  rw [e, List.length_append]
  simp
end M26
/-! ### OWN EXTENSION: xs.insert(i, y); an if whose answer is known, by what holds behind it -/
namespace L2
open PySem PySem.Spec PyProof.Rows
section
variable {X : Cx}
def rInsert : V → List V → Hp → VK → Prop := fun x vs H Q => ∃ l xs i y, x = .ref l ∧ vs = [.int i, y] ∧ H l = some (.lst xs) ∧ 0 ≤ i ∧ i ≤ (xs.length : Int) ∧ xs.length ≤ 1000 ∧ Q .non (upd H l (.lst (xs.take i.toNat ++ [y] ++ xs.drop i.toNat)))
theorem mt_insert : MtM X "list.insert" rInsert := by
  intro pins s σ H x vs v us Q I rx rv h
  obtain ⟨l, xs, i, y, rfl, rfl, hH, i0, i1, hz, q⟩ := h
  cases rx
  cases rv with
  | cons r1 r2 =>
    cases r2 with
    | cons r3 r4 =>
      cases r4
      rename_i u
      obtain ⟨t, rfl⟩ := r1
      obtain ⟨z, its, n, r, hl, e⟩ := I.lstM hH
      have hk : (if i < 0 then (i + ((its.toArray.size : Nat) : Int)).toNat else min i.toNat its.toArray.size) = i.toNat := by
        rw [if_neg (by omega), List.size_toArray]; omega
      refine call_meets F.slot_list_insert ⟨_, e, rfl⟩ F.entry_list_insert (F.args_list_insert_3 _ _ _)
        (PySem.AutoSeq1.list_insert_list_int_val_1 l its.toArray n i t u (by
          have : Builtin.List.listFitsIndex i = true := by
            unfold Builtin.List.listFitsIndex
            rw [decide_eq_true (by omega), decide_eq_true (by omega)]; rfl
          rw [this]; simp) (by rw [List.size_toArray]; omega)) ⟨e, ?_⟩
      refine ⟨.non, _, I.lset (its' := its.take i.toNat ++ [u] ++ its.drop i.toNat) hH e ?_ (pairedApp (pairedApp (pairedTake i.toNat r) (.cons r3 .nil)) (pairedDrop i.toNat r)) ?_, rfl, q⟩
      · show (its.toArray.extract 0 (if i < 0 then (i + ((its.toArray.size : Nat) : Int)).toNat else min i.toNat its.toArray.size)).push u ++ its.toArray.extract (if i < 0 then (i + ((its.toArray.size : Nat) : Int)).toNat else min i.toNat its.toArray.size) = _
        rw [hk]
        apply Array.ext'
        simp
        exact List.take_of_length_le (by rw [List.length_drop]; exact Nat.le_refl _)
      · rw [List.length_append, List.length_append, List.length_take, List.length_drop, List.length_singleton]
        exact Nat.le_trans (show _ ≤ 5000 by omega) (by decide)
end
theorem ifP_exact {t : TT} {σ : St} {H : Hp} {a r : TS} {D : Ends} (c : Bool) (P : St → Hp → Prop) (h : ∀ Q : Bool → Hp → Prop, Q c H → t σ H Q) (ha : c = true → ∀ D' : Ends, (∀ σ' H', P σ' H' → D'.nx σ' H') → a D' σ H) (hn : c = false → P σ H) (hr : ∀ σ' H', P σ' H' → r D σ' H') : tSeq (tIfS t a tNext) r D σ H := by
  refine h _ ?_
  cases c with
  | true => exact iteT (ha rfl _ hr)
  | false => exact iteF (hr σ H (hn rfl))
end L2
/-! ### names, cards with those met -/
namespace L2
open PySem PySem.Spec PyProof.Rows
theorem paired_in {α β : Type} {F G : α → β → Prop} : ∀ {l₁ : List α} {l₂ : List β}, Paired F l₁ l₂ → (∀ a ∈ l₁, ∀ b, F a b → G a b) → Paired G l₁ l₂
  | _, _, .nil, _ => .nil
  | _, _, .cons h t, g => .cons (g _ (List.mem_cons_self ..) _ h) (paired_in t fun a ha b hb => g a (List.mem_cons_of_mem _ ha) b hb)
theorem any_ifEH {t : TT} {σ : St} {H : Hp} {a b r : TS} {D : Ends} (P : St → Hp → Prop) (h : AnyT t σ H) (ha : ∀ D' : Ends, (∀ σ' H', P σ' H' → D'.nx σ' H') → a D' σ H) (hb : ∀ D' : Ends, (∀ σ' H', P σ' H' → D'.nx σ' H') → b D' σ H) (hr : ∀ σ' H', P σ' H' → r D σ' H') : tSeq (tIfS t a b) r D σ H :=
  any_if h (ha _ hr) (hb _ hr)
end L2
namespace M26
open PySem L2 PyProof.Rows
abbrev abcS : Str := Str.ofString "abcdefghijklmnopqrstuvwxyz"
theorem at_let {i : Int} (h0 : 0 ≤ i) (h1 : i < 26) : atI abcS.cps.toList i = some (97 + i.toNat) := by
  have hall : ∀ k : Nat, k < 26 → abcS.cps.toList[k]? = some (97 + k) := by decide +kernel
  have := atI_nat (hall i.toNat (by omega))
  rwa [show ((i.toNat : Nat) : Int) = i by omega] at this
def sgn (f m : Int) (k : Nat) : Str := if m > 26 then (⟨#[97 + ((f + (0 + (k : Int))) % 26).toNat]⟩ : Str) ++ (⟨#[97 + ((0 + (k : Int)) / 26).toNat]⟩ : Str) else ⟨#[97 + ((f + (0 + (k : Int))) % 26).toNat]⟩
theorem sgn_len (f m : Int) (k : Nat) : (sgn f m k).length ≤ 2 := by
  unfold sgn
  split
  · exact Nat.le_refl 2
  · exact (show 1 ≤ 2 by decide)
theorem sgn_inj {f m : Int} {k j : Nat} (hk : (k : Int) < m) (hj : (j : Int) < m) (h : sgn f m k = sgn f m j) : k = j := by
  unfold sgn at h
  by_cases hm : m > 26
  · rw [if_pos hm, if_pos hm] at h
    have h' : #[97 + ((f + (0 + (k : Int))) % 26).toNat, 97 + ((0 + (k : Int)) / 26).toNat] = #[97 + ((f + (0 + (j : Int))) % 26).toNat, 97 + ((0 + (j : Int)) / 26).toNat] := congrArg Str.cps h
    simp only [Array.mk.injEq, List.cons.injEq, and_true] at h'
    omega
  · rw [if_neg hm, if_neg hm] at h
    have h' : #[97 + ((f + (0 + (k : Int))) % 26).toNat] = #[97 + ((f + (0 + (j : Int))) % 26).toNat] := congrArg Str.cps h
    simp only [Array.mk.injEq, List.cons.injEq, and_true] at h'
    omega
def nmK (y1 y2 : Str) (f m : Int) (k : Nat) : Str := y1 ++ sgn f m k ++ y2
theorem nmK_inj {y1 y2 : Str} {f m : Int} {k j : Nat} (hk : (k : Int) < m) (hj : (j : Int) < m) (h : nmK y1 y2 f m k = nmK y1 y2 f m j) : k = j := by
  have h' : y1.cps ++ (sgn f m k).cps ++ y2.cps = y1.cps ++ (sgn f m j).cps ++ y2.cps := congrArg Str.cps h
  have h2 : y1.cps.toList ++ (sgn f m k).cps.toList ++ y2.cps.toList = y1.cps.toList ++ (sgn f m j).cps.toList ++ y2.cps.toList := by
    have := congrArg Array.toList h'
    simpa using this
  have h3 := List.append_cancel_left (List.append_cancel_right h2)
  refine sgn_inj (f := f) hk hj ?_
  have h4 : (sgn f m k).cps = (sgn f m j).cps := Array.ext' h3
  cases e1 : sgn f m k
  cases e2 : sgn f m j
  rw [e1, e2] at h4
  exact congrArg Str.mk h4
theorem names_nd (y1 y2 : Str) (f m : Int) (n : Nat) (hn : (n : Int) ≤ m) : ((List.range n).map (nmK y1 y2 f m)).Nodup := by
  rw [List.nodup_iff_pairwise_ne, List.pairwise_map, List.pairwise_iff_getElem]
  intro i j hi hj hij
  rw [List.length_range] at hi hj
  simp only [List.getElem_range]
  exact fun e => by
    have := nmK_inj (by omega) (by omega) e
    omega
def CardM (H : Hp) (t : Addr) (nm : Str) (bs : List Bool) (ms : List Str) : Prop := ∃ (pts : Int) (m tb : Addr) (r : Bool) (ys : List V), H t = some (.tup [.str nm, .int pts, .str (sS bs), .ref m, .bl r, .ref tb]) ∧ H m = some (.tup (ms.map V.str)) ∧ H tb = some (.tup ys)
theorem CardM.same {H H' : Hp} {t : Addr} {nm : Str} {bs : List Bool} {ms : List Str} (e : Same H H') (h : CardM H t nm bs ms) : CardM H' t nm bs ms := by
  obtain ⟨pts, m, tb, r, ys, h1, h2, h3⟩ := h
  exact ⟨pts, m, tb, r, ys, e _ _ h1, e _ _ h2, e _ _ h3⟩
def freeB (a b : List Bool) : Bool := decide (boundD a = none ∨ boundD a ≠ boundD b)
theorem freeB_symm (a b : List Bool) : freeB a b = freeB b a := by
  unfold freeB
  refine decide_eq_decide.mpr ⟨fun h => ?_, fun h => ?_⟩
  · rcases h with z | z
    · by_cases e : boundD b = none
      · exact .inl e
      · exact .inr fun y => e (y.trans z)
    · exact .inr fun y => z y.symm
  · rcases h with z | z
    · by_cases e : boundD a = none
      · exact .inl e
      · exact .inr fun y => e (y.trans z)
    · exact .inr fun y => z y.symm
def mmD (n1 n2 : Str) (a b : List Bool) (m1 m2 : List Str) : Bool := !decide (n2 ∈ m1) && !decide (n1 ∈ m2) && freeB a b
theorem mmD_symm (n1 n2 : Str) (a b : List Bool) (m1 m2 : List Str) : mmD n2 n1 b a m2 m1 = mmD n1 n2 a b m1 m2 := by
  unfold mmD
  rw [freeB_symm b a, Bool.and_comm (!decide (n1 ∈ m2))]
end M26
/-! ### OWN EXTENSION: range(i, 0, -1), i below 64 -/
namespace L2
open PySem PySem.Spec PyProof.Rows
theorem small_dn {i : Int} (h0 : 0 ≤ i) (h1 : i < 64) : Builtin.Range.small i 0 (-1) = true := by
  have hall : ∀ n : Nat, n < 64 → Builtin.Range.small (n : Int) 0 (-1) = true := by decide +kernel
  have := hall i.toNat (by omega)
  rwa [show ((i.toNat : Nat) : Int) = i by omega] at this
theorem size_dn {i : Int} (h0 : 0 ≤ i) : Builtin.Range.rangeSize i 0 (-1) = i := by
  unfold Builtin.Range.rangeSize
  rw [if_neg (by decide)]
  by_cases h : i > 0
  · rw [if_pos h, show (-(-1) : Int) = 1 from rfl, Int.ediv_one]; omega
  · rw [if_neg h]; omega
section
variable {X : Cx} {tg : Expr}
def iRngDn (ta : TA) : TI := fun σ H R => ta σ H fun vs H1 => ∃ i : Int, vs = [.int i, .int 0, .int (-1)] ∧ 0 ≤ i ∧ i < 64 ∧ R (Itrc i (-1) i.toNat) H1
theorem pi_rangeDn {a b c : Expr} {ta : TA} {p pos : Pos} (hg : Gl X "range") (hm : X.mg "range" = none) (ha : PA X [a, b, c] ta) (hs : starEach [a, b, c] X.env = [(false, eval a X.env), (false, eval b X.env), (false, eval c X.env)] := by rfl)
    (hs2 : starEach [b, c] X.env = [(false, eval b X.env), (false, eval c X.env)] := by rfl) :
    PI X tg (.Call (.Name "range" p) [a, b, c] [] pos) (iRngDn ta) := by
  intro pins s σ H R I h
  refine Call_ (ld_blt I hg hm boot_range (PyProof.Rows.callWith_type1 (thn (ha pos pins s σ H _ I h) fun us s1 ⟨vs, H1, I1, r1, q1⟩ => ?_) (by rw [hs, hs2]) (by rw [hs2]; rfl)))
  obtain ⟨i, e, i0, i1, q⟩ := q1
  subst e
  cases r1 with
  | cons r rr =>
    cases rr with
    | cons r' rr =>
      cases rr with
      | cons r'' rr =>
        cases rr
        obtain ⟨t, rfl⟩ := r
        obtain ⟨t', rfl⟩ := r'
        obtain ⟨t'', rfl⟩ := r''
        refine call_range_3 (by decide) ?_ (Or.inl (PyProof.noPylong_of_log2 (by decide +kernel)))
        refine wpAny_pyIter_range (IsRange.new ..) (small_dn i0 i1) ?_
        have I2 : Inv X pins σ H1 { s1 with heap := s1.heap.push { cls := .type "range", data := .fields #[.int i t, .int 0 t', .int (-1) t''] }, toks := s1.toks } := I1.kept fun b o e => Heap.get?_push_of_some _ e
        refine ⟨(s1.heap.push { cls := .type "range", data := .fields #[.int i t, .int 0 t', .int (-1) t''] }).objs.size, [(s1.heap.push { cls := .type "range", data := .fields #[.int i t, .int 0 t', .int (-1) t''] }).objs.size], _, _, H1, rfl,
          I2.kept (t' := s1.toks) fun b o e => Heap.get?_push_of_some _ e, turn_rangec _ i (-1) i.toNat, ?_, fun b hb => ?_, q⟩
        · have e1 : i + ((0 : Nat) : Int) * (-1) = i := by simp
          have e2 : ((i.toNat : Nat) : Int) - ((0 : Nat) : Int) = Builtin.Range.rangeSize i 0 (-1) := by rw [size_dn i0]; omega
          show IsRangeIter _ _ (i + ((0 : Nat) : Int) * (-1)) (((i.toNat : Nat) : Int) - ((0 : Nat) : Int)) (-1)
          rw [e1, e2]
          exact Heap.get?_push_size _ rfl
        · have e : b = (s1.heap.push { cls := .type "range", data := .fields #[.int i t, .int 0 t', .int (-1) t''] }).objs.size := by simpa using hb
          subst e
          exact I2.fpOk (Nat.le_refl _) (I2.hok.fresh (Nat.le_refl _))
end
end L2
/-! ### OWN EXTENSION: enumerate of a list, the target a tuple -/
namespace L2
open PySem PySem.Spec PyProof.Rows
/-- the list at a, each item with its number, in a tuple of its own -/
def Iten (K : PySem.W.Frag) (a : Addr) : It :=
  ⟨fun i H => ∃ xs x, SqL K H a xs ∧ xs[i]? = some x, fun i H x H' => ∃ p y, H p = none ∧ x = .ref p ∧ (∀ xs, SqL K H a xs → xs[i]? = some y) ∧ H' = upd H p (.tup [.int (i : Int), y]), fun i H => ∃ xs, SqL K H a xs ∧ xs.length ≤ i⟩
section
variable {X : Cx} {pins : List (Addr × Obj)} {σ : St} {H : Hp} {s : Shared} {h' : Heap}
/-- two untracked records of ours have turned -/
theorem Inv.turned2 {t' : Nat} {e it : Addr} (I : Inv X pins σ H s) (k : ∀ b o, b ≠ e → b ≠ it → s.heap.get? b = some o → h'.get? b = some o) (fe : FpOk X pins H e) (fi : FpOk X pins H it) : Inv X pins σ H { s with heap := h', toks := t' } := by
  have ne : ∀ b u, H b = some u → b ≠ e := fun b u q z => by rw [z, fe.1] at q; cases q
  have ni : ∀ b u, H b = some u → b ≠ it := fun b u q z => by rw [z, fi.1] at q; cases q
  have kk : ∀ b o, b ∉ [e, it] → s.heap.get? b = some o → h'.get? b = some o := fun b o hc q => k b o (fun z => hc (by simp [z])) (fun z => hc (by simp [z])) q
  refine I.step (g' := s.gens) (d' := s.drawn) (ch := [e, it]) (fun b hb => ?_) (fun b o _ _ hc e _ => kk b o hc e) (fun b o _ _ hc e _ => ⟨o.slots, kk b o hc e⟩) (fun _ _ _ _ n => n)
    (fun b o hc e => ⟨o, kk b o hc e⟩) (fun _ _ e => e) (fun _ _ _ e => e) (fun b ps e => ⟨#[], by rw [e]; simp⟩) (fun m hm => ?_) (fun b u q => ?_) I.bare
  · rcases List.mem_cons.mp hb with z | z
    · subst z; exact ⟨fe.2.2.2.1, fe.2.1, fe.2.2.2.2.1, fe.2.2.2.2.2⟩
    · have z : b = it := by simpa using z
      subst z; exact ⟨fi.2.2.2.1, fi.2.1, fi.2.2.2.2.1, fi.2.2.2.2.2⟩
  · obtain ⟨o, es, ep, ho, r⟩ := hm
    exact ⟨o, es, ep, k _ o (Ne.symm fe.2.1) (Ne.symm fi.2.1) ho, r⟩
  · refine (I.hok b u q).stay (fun c v hc z => k c v ?_ ?_ z) (fun _ z => z) fun _ _ z => z
    · rcases hc with y | y
      · rw [y]; exact ne b u q
      · exact ne c _ y
    · rcases hc with y | y
      · rw [y]; exact ni b u q
      · exact ni c _ y
theorem FpOk.upd {b p : Addr} {o : HO} (h : FpOk X pins H b) (hn : b ≠ p) : FpOk X pins (L2.upd H p o) b := ⟨by rw [upd_ne hn]; exact h.1, h.2⟩
end
theorem turn_enum {P : Program} {w : World} {K : PySem.W.Frag} {elts : List Expr} {x1 : Nat} {tp : Pos} (a e it : Addr) (hne : e ≠ it) : Turn P w K (.Tuple elts x1 tp) (Iten K a) [e, it] e (fun i h => (∃ old, IsEnum h e it i old) ∧ h.IsListIter it a i) where
  mem := by simp
  obj := fun i h st b hb => by
    obtain ⟨⟨old, he⟩, o, ho, c, d⟩ := st
    rcases List.mem_cons.mp hb with z | z
    · subst z
      exact ⟨_, he, fun v z => by cases z⟩
    · have z : b = it := by simpa using z
      subst z
      exact ⟨o, ho, fun v z => by rw [d] at z; cases z⟩
  keep := fun i h h' st k => by
    obtain ⟨⟨old, he⟩, hi⟩ := st
    exact ⟨⟨old, k e (by simp) _ he⟩, hi.at fun o q => k it (by simp) o q⟩
  item := by
    intro X hP hw hK hc i pins s σ H E I hf st hg
    subst hP hw hK
    obtain ⟨xs, x, hq, hx⟩ := hg
    obtain ⟨its, rv, p, hz⟩ := I.list hq
    obtain ⟨u, hu, ru⟩ := rv.get hx
    obtain ⟨⟨old, he⟩, hit⟩ := st
    have fe := hf e (by simp)
    have fi := hf it (by simp)
    refine wpAny_pyNext_enum_item he hit p.isList (x := u) (by simpa using hu) hne fun h' ho hit' hT hsz hk => ⟨_, rfl, ?_⟩
    refine wpAny_letOwnedTupleGo_enum ho fun h2 he2 hs2 => ?_
    have he2' : IsEnum h2 e it ((i : Int) + 1) u := he2
    have hs2' : Heap.SameBut e h' h2 := hs2
    have hle : e < s.heap.objs.size := Heap.lt_size he
    have hli : it < s.heap.objs.size := by obtain ⟨o, q, _⟩ := hit; exact Heap.lt_size q
    have hn : H s.heap.objs.size = none := I.hok.fresh (Nat.le_refl _)
    have hT2 : h2.get? s.heap.objs.size = some { cls := .type "tuple", data := .seq #[.int i s.toks, u] } := (hs2'.2 _ (Nat.ne_of_gt hle)).trans hT
    have I1 : Inv X pins σ (upd H s.heap.objs.size (.tup [.int (i : Int), x])) { s with heap := s.heap.push { cls := .type "tuple", data := .seq #[.int i s.toks, u] }, toks := s.toks + 1 } :=
      I.laid (fun b o q => Heap.get?_push_of_some _ q) (Nat.le_refl _) ⟨by show 2 ≤ sizeLine; decide, [.int i s.toks, u], .cons ⟨s.toks, rfl⟩ (.cons ru .nil), ⟨_, Heap.get?_push_size _ rfl, rfl, _, rfl⟩, _, Heap.get?_push_size _ rfl, rfl⟩
    have kk : ∀ (b : Addr) (o : Obj), b ≠ e → b ≠ it → (s.heap.push { cls := .type "tuple", data := .seq #[.int i s.toks, u] }).get? b = some o → h2.get? b = some o := fun b o be bi q' => by
      by_cases hb : b = s.heap.objs.size
      · subst hb
        rw [Heap.get?_push_size _ rfl] at q'
        cases q'
        exact hT2
      · rw [Heap.get?_push_ne _ _ _ hb] at q'
        exact (hs2'.2 b be).trans (hk b o be bi q')
    have I2 := Inv.turned2 (h' := h2) (t' := s.toks + 1) (e := e) (it := it) I1 kk (fe.upd (Nat.ne_of_lt hle)) (fi.upd (Nat.ne_of_lt hli))
    refine ⟨.ref s.heap.objs.size, _, I2, rfl, ⟨_, x, hn, rfl, fun ys hy => by rw [I.list_inj hy hq]; exact hx, rfl⟩, ⟨⟨u, by rw [Int.natCast_add]; exact he2'⟩, hit'.at fun o q => (hs2'.2 it (Ne.symm hne)).trans q⟩, fun b hb => ?_⟩
    rcases List.mem_cons.mp hb with z | z
    · subst z; exact (fe.upd (Nat.ne_of_lt hle)).1
    · have z : b = it := by simpa using z
      subst z; exact (fi.upd (Nat.ne_of_lt hli)).1
  done := by
    intro X hP hw hK hc i pins s σ H E I hf st hg
    subst hP hw hK
    obtain ⟨xs, hq, hx⟩ := hg
    obtain ⟨its, rv, p, hz⟩ := I.list hq
    obtain ⟨⟨old, he⟩, hit⟩ := st
    obtain ⟨f0, f1, f2, f3, f4, f5⟩ := hf it (by simp)
    have hl := rv.length
    exact wpAny_pyNext_enum_end (I.ok.hd hc) he hit p.isList (by simp; omega) fun h' eb => ⟨rfl, I.turned (t' := s.toks) (fun b o hb e => eb b o hb e) f0 f1 f3 f4 f5⟩
  self := fun _ _ _ _ _ st h => by
    obtain ⟨⟨old, he⟩, _⟩ := st
    exact wpAny_pyIter_enum he h
section
variable {X : Cx}
def iEnum (K : PySem.W.Frag) (ta : TA) : TI := fun σ H R => ta σ H fun vs H1 => ∃ a xs, vs = [.ref a] ∧ H1 a = some (.lst xs) ∧ R (Iten K a) H1
theorem pi_enum {a : Expr} {ta : TA} {p pos tp : Pos} {elts : List Expr} {x1 : Nat} (hg : Gl X "enumerate") (hm : X.mg "enumerate" = none) (ha : PA X [a] ta) (hs : starEach [a] X.env = [(false, eval a X.env)] := by rfl) : PI X (.Tuple elts x1 tp) (.Call (.Name "enumerate" p) [a] [] pos) (iEnum X.K ta) := by
  intro pins s σ H R I h
  refine Call_ (ld_blt I hg hm boot_enumerate (PyProof.Rows.callWith_type1 (thn (ha pos pins s σ H _ I h) fun us s1 ⟨vs, H1, I1, r1, q1⟩ => ?_) hs rfl))
  obtain ⟨l, xs, e, hq, q⟩ := q1
  subst e
  cases r1 with
  | cons r rr =>
    cases rr
    cases r
    obtain ⟨hz, its, n, rv, hl⟩ := (show ObjOk X.prog X.w H1 s1.heap l (.lst xs) from I1.hok l _ hq)
    refine call_enumerate_1 hl fun h' he hit hsz hk => ?_
    refine wpAny_pyIter_enum he ?_
    have I2 : Inv X pins σ H1 { s1 with heap := h' } := I1.kept (t' := s1.toks) hk
    refine ⟨s1.heap.objs.size + 1, [s1.heap.objs.size + 1, s1.heap.objs.size], _, _, H1, rfl, I2, turn_enum l _ _ (Nat.succ_ne_self _), ⟨⟨_, he⟩, hit⟩, fun b hb => ?_, q⟩
    rcases List.mem_cons.mp hb with z | z
    · subst z; exact I1.fpOk (Nat.le_succ _) (I1.hok.fresh (Nat.le_succ _))
    · have z : b = s1.heap.objs.size := by simpa using z
      subst z; exact I1.fpOk (Nat.le_refl _) (I1.hok.fresh (Nat.le_refl _))
theorem for_enum {K : PySem.W.Frag} {a : Addr} {xs : List V} {g : TG} {tb : TS} {D : Ends} {σ : St} {H : Hp} (Pv : Nat → St → Hp → Prop) (h0 : Pv 0 σ H) (hl : ∀ i σ H, i ≤ xs.length → Pv i σ H → SqL K H a xs)
    (hs : ∀ i x σ H p, xs[i]? = some x → Pv i σ H → H p = none → g (.ref p) σ (upd H p (.tup [.int (i : Int), x])) fun σ2 H2 => tb { D with nx := Pv (i + 1), ct := Pv (i + 1), bk := D.nx } σ2 H2) (hd : ∀ σ H, Pv xs.length σ H → D.nx σ H) :
    ∃ W : Nat → Nat → St → Hp → Prop, (∃ m, W 0 m σ H) ∧ ∀ i m σ H, W i m σ H →
      ((Iten K a).stop i H ∧ D.nx σ H) ∨ ((Iten K a).go i H ∧ ∃ N : St → Hp → Prop, (∀ σ' H', N σ' H' → ∃ m', m' < m ∧ W (i + 1) m' σ' H') ∧ ∀ x H', (Iten K a).yld i H x H' → g x σ H' fun σ2 H2 => tb { D with nx := N, ct := N, bk := D.nx } σ2 H2) := by
  refine ⟨fun i m σ H => m = xs.length - i ∧ i ≤ xs.length ∧ Pv i σ H, ⟨xs.length, by simp, Nat.zero_le _, h0⟩, ?_⟩
  rintro i m σ H ⟨rfl, hi, p⟩
  have q := hl i σ H hi p
  by_cases hlt : i < xs.length
  · refine .inr ⟨⟨xs, xs[i], q, by simp [hlt]⟩, Pv (i + 1), fun σ' H' p' => ⟨xs.length - (i + 1), by omega, rfl, hlt, p'⟩, fun x H' y => ?_⟩
    obtain ⟨r, z, hr, e, y, e'⟩ := y
    subst e e'
    exact hs i z σ H r (y xs q) p hr
  · have e : i = xs.length := by omega
    subst e
    exact .inl ⟨⟨xs, q, Nat.le_refl _⟩, hd σ H p⟩
end
end L2
/-! ### OWN EXTENSION: a list comprehension with one for, any target of names, at most one test -/
namespace L2
open PySem PySem.Spec PyProof.Rows
structure CompOkG (X : Cx) (scope : Scope) (cl : List (Str × Addr)) (xs : List Str) (fr : List (Str × Nat)) : Prop where
  clos : closureFor scope X.env = pure cl
  kind : scope.kind = .function
  nocell : ∀ y ∈ scope.names, y.2 ≠ .cell
  names : ∀ y ∈ scope.names, y.2 = .local → scope.names.lookup y.1 = some .local
  sub : ∀ y c, cl.lookup y = some c → X.env.cells.lookup y = some c
  has : ∀ y, ((relabel scope X.env).names.lookup y = some .cell ∨ (relabel scope X.env).names.lookup y = some .free) → ∃ c, cl.lookup y = some c
  fre : ∀ p ∈ fr, X.N[p.2]? = some p.1 ∧ (X.env.scope.names.lookup p.1 = some .cell ∨ X.env.scope.names.lookup p.1 = some .free) ∧ ((relabel scope X.env).names.lookup p.1 = some .cell ∨ (relabel scope X.env).names.lookup p.1 = some .free)
/-- no value yet -/
def nones (n : Nat) : St := List.replicate n none
section
variable {X : Cx} {pins : List (Addr × Obj)} {σ : St} {H : Hp} {s : Shared} {scope : Scope} {cl : List (Str × Addr)} {xs : List Str} {fr : List (Str × Nat)} {fp : List Addr}
theorem inv_compG (C : CompOkG X scope cl xs fr) (I : Inv X pins σ H s) (hf : ∀ b ∈ fp, FpOk X pins H b ∧ b < s.heap.objs.size) {h' : Heap} {t : Nat} {o : Obj} {m : Str → Option Value} (hn : h'.Ns s.heap.objs.size m)
    (hs : Heap.SameBut s.heap.objs.size (s.heap.push o) h') : Inv (cxComp X scope cl (xs ++ fr.map (·.1)) fp s H) [] (nones xs.length ++ slotsC fr σ) H { s with heap := h', toks := t } := by
  have old : ∀ b u, s.heap.get? b = some u → h'.get? b = some u := fun b u e => hs.extBut b u (Nat.ne_of_lt (Heap.lt_size e)) (Heap.get?_push_of_some _ e)
  have celllt : ∀ y c, X.env.cells.lookup y = some c → c < s.heap.objs.size := fun y c e => by
    obtain ⟨v, ob, ho, _⟩ := I.cell y c e
    exact Heap.lt_size ho
  refine ⟨⟨I.ok.mod, C.kind, I.ok.glob, I.ok.blt, Nat.le_refl _, fun a b c ea eb => I.ok.inj a b c (C.sub a c ea) (C.sub b c eb), fun y hy => C.has y hy, (fun y c hy => nomatch hy), I.ok.hd, I.ok.frames, .inl rfl, fun b hb => ⟨Nat.ne_of_lt (hf b hb).2, fun y c e => (hf b hb).1.2.2.2.2.1 y c (C.sub y c e)⟩, I.bs, Nat.le_trans I.ok.bsz I.sz, fun b ob e hb => ?_, fun b hb hz => ?_, I.stack, I.stkFree⟩,
    rfl, I.bare, ⟨fun b u e _ _ _ => old b u e, fun b u e _ _ _ => ⟨u.slots, old b u e⟩, fun b u e n _ => n, fun b u e _ => ⟨u, old b u e⟩, fun _ _ e => e, fun _ _ _ e => e, fun b ps e => ⟨#[], by rw [Array.append_empty]; exact e⟩⟩, ⟨m, hn, fun i y v e1 e2 e3 => ?_⟩, fun y c e => ?_, I.hok.fresh (Nat.le_refl _), fun y c e => I.freeC y c (C.sub y c e), (fun p hp => by cases hp), I.hok.kept old, ?_⟩
  · -- noex
    rcases (hf b hb).1.2.2.2.1 with z | z
    · exact I.ok.noex b ob e z
    · exact absurd (Nat.lt_of_lt_of_le (Heap.lt_size (I.ok.bs b ob e).1) z) (Nat.lt_irrefl _)
  · -- exfs
    rcases List.mem_cons.mp (I.stkSub b hz) with e | e
    · exact (hf b hb).1.2.1 e
    · exact (hf b hb).1.2.2.1 e
  · -- a free name's value
    have e1x : (xs ++ fr.map (·.1))[i]? = some y := e1
    have e2x : (nones xs.length ++ slotsC fr σ)[i]? = some (some v) := e2
    have ln : (nones xs.length).length = xs.length := List.length_replicate
    by_cases hi : i < xs.length
    · rw [List.getElem?_append_left (by rw [ln]; exact hi)] at e2x
      unfold nones at e2x
      rw [List.getElem?_replicate, if_pos hi] at e2x
      cases e2x
    · rw [List.getElem?_append_right (by omega)] at e1x
      rw [List.getElem?_append_right (by rw [ln]; omega), ln] at e2x
      generalize i - xs.length = i at e1x e2x
      have e1' : (fr.map (·.1))[i]? = some y := e1x
      have e2' : (slotsC fr σ)[i]? = some (some v) := e2x
      rw [List.getElem?_map] at e1'
      unfold slotsC at e2'
      rw [List.getElem?_map] at e2'
      cases ep : fr[i]? with
      | none => rw [ep] at e1'; cases e1'
      | some p =>
        rw [ep] at e1' e2'
        have ey : p.1 = y := Option.some.inj e1'
        have ev : (σ[p.2]?).join = some v := Option.some.inj e2'
        obtain ⟨f1, f2, f3⟩ := C.fre p (List.mem_of_getElem? ep)
        rw [ey] at f1 f2 f3
        have ev' : σ[p.2]? = some (some v) := by
          cases q : σ[p.2]? with
          | none => rw [q] at ev; cases ev
          | some z => rw [q] at ev; cases z with
            | none => cases ev
            | some z => exact congrArg some ev
        obtain ⟨m', _, hl⟩ := I.loc
        obtain ⟨u, r, l⟩ := hl p.2 y v f1 ev' (.inr f2)
        refine ⟨u, r, .inr ⟨f3, ?_⟩⟩
        rcases l with ⟨k, _⟩ | ⟨_, c, ec, hc⟩
        · exfalso
          have k' : X.env.scope.names.lookup y = some .local := k
          rcases f2 with z | z <;> rw [z] at k' <;> cases k'
        · obtain ⟨c', ec'⟩ := C.has y f3
          have := C.sub y c' ec'
          rw [ec] at this
          cases this
          obtain ⟨ob, ho, hd⟩ := hc
          exact ⟨c, ec', ob, old _ _ ho, hd⟩
  · obtain ⟨v, ob, ho, hd⟩ := I.cell y c (C.sub y c e)
    exact ⟨v, ob, old _ _ ho, hd⟩
  · show (nones xs.length ++ slotsC fr σ).length = (xs ++ fr.map (·.1)).length
    simp [slotsC, nones]
end
/-- the reading: W by the turn, a measure, the list so far, the heap -/
def tCompG (n : Nat) (fr : List (Str × Nat)) (wi : TI) (g : TG) (tt : TT) (te : TE) : TE := fun σ H Q => wi σ H fun J H1 => ∀ D, H1 D = none → ∃ W : Nat → Nat → List V → Hp → Prop, (∃ m, W 0 m [] (upd H1 D (.lst []))) ∧ ∀ i m acc H2, W i m acc H2 →
  H2 D = some (.lst acc) ∧ ((J.stop i H2 ∧ Q (.ref D) H2) ∨ (acc.length < sizeLine ∧ J.go i H2 ∧ ∀ x H3, J.yld i H2 x H3 → g x (nones n ++ slotsC fr σ) H3 fun σ1 H3' => ∃ vs : St, vs.length = n ∧ σ1 = vs ++ slotsC fr σ ∧ tt σ1 H3' fun b H4 =>
    if b = true then te σ1 H4 fun y H5 => H5 D = some (.lst acc) ∧ ∃ m', m' < m ∧ W (i + 1) m' (acc ++ [y]) (upd H5 D (.lst (acc ++ [y]))) else ∃ m', m' < m ∧ W (i + 1) m' acc H4))
theorem weak_slots {vs r : St} {n j : Nat} {v : V} (hl : vs.length = n) (e : (nones n ++ r)[j]? = some (some v)) : (vs ++ r)[j]? = some (some v) := by
  have ln : (nones n).length = n := List.length_replicate
  by_cases hj : j < n
  · rw [List.getElem?_append_left (by rw [ln]; exact hj)] at e
    unfold nones at e
    rw [List.getElem?_replicate, if_pos hj] at e
    cases e
  · rw [List.getElem?_append_right (by rw [ln]; omega), ln] at e
    rw [List.getElem?_append_right (by omega), hl]
    exact e
section
variable {X : Cx} {scope : Scope} {cl : List (Str × Addr)} {xs : List Str} {fr : List (Str × Nat)} {elt iter tgt : Expr} {g : TG} {ifs : List Expr} {px pos : Pos} {wi : TI} {tt : TT} {te : TE}
theorem comp_walkG {pins : List (Addr × Obj)} {σ : St} {H : Hp} {s : Shared} {Q : VK} {use : Option (Value → Sem Unit)} {Qv : Value → Shared → Prop} {E : Value → Shared → Prop} (C : CompOkG X scope cl xs fr) (hc : X.calm = true) (hi : PI X tgt iter wi) (hgt : ∀ fp s H, PG (cxComp X scope cl (xs ++ fr.map (·.1)) fp s H) tgt g)
    (ht : ∀ fp s H, PTs (cxComp X scope cl (xs ++ fr.map (·.1)) fp s H) ifs tt) (he : ∀ fp s H, PE (cxComp X scope cl (xs ++ fr.map (·.1)) fp s H) elt te)
    (I : Inv X pins σ H s) (h : tCompG xs.length fr wi g tt te σ H Q) (hs : ∀ x, foldedSetIterable iter X.env x = pure x) (hE : ∀ e s', X.xe e s' → E e s')
    (hQ : ∀ (s₄ : Shared) (H₄ : Hp) (D Cn : Addr) (m : Str → Option Value), Inv X pins σ H₄ s₄ → s₄.heap.Ns Cn m → H₄ Cn = none → Cn ≠ X.env.locals → Cn ∉ X.fs → X.s₀.heap.objs.size ≤ Cn → (∀ y c, X.env.cells.lookup y = some c → c ≠ Cn) → (∀ p ∈ X.pn ++ pins, p.1 ≠ Cn) → Q (.ref D) H₄ →
      compPost (model X.prog X.w) X.A E use Qv (.ref D) Cn (.ok .next) s₄) :
    wpAny (model X.prog X.w) X.A (comprehension (.ListComp elt [⟨tgt, iter, ifs, 0⟩] scope pos) scope X.env (firstIterPos [⟨tgt, iter, ifs, 0⟩] pos) (newList []) false (eval iter X.env) use) Qv E s := by
  refine wpAny_comprehension_free (use := use) rfl hs C.clos C.kind C.names (wpAny_mono (hi pins s σ H _ I h) (fun v s1 h1 => wpAny_mono h1 (fun itv s2 h2 => ?_) hE) hE)
  obtain ⟨it, fp, tn, J, H2, e, I2, T, st2, f2, q⟩ := h2
  subst e
  refine wpAny_newObj_type (wpAny_newFunctionEnv C.nocell (by intro y hy; simp at hy) (fun h₁ hns₁ hsb₁ => ?_) C.kind)
  dsimp only at hns₁ hsb₁ ⊢
  have I3 : Inv X pins σ (upd H2 s2.heap.objs.size (.lst [])) { s2 with heap := s2.heap.push { cls := .type "list", dict := none, data := .seq ([] : List Value).toArray }, toks := s2.toks } := I2.lnew (ys := []) (its := []) .nil (Nat.zero_le _)
  obtain ⟨W, ⟨m0, w0⟩, turn⟩ := q s2.heap.objs.size I2.fresh
  generalize hD : s2.heap.objs.size = D at *
  generalize hs3 : ({ s2 with heap := s2.heap.push { cls := .type "list", dict := none, data := .seq ([] : List Value).toArray }, toks := s2.toks } : Shared) = s3 at *
  have hheap : s2.heap.push { cls := .type "list", dict := none, data := .seq ([] : List Value).toArray } = s3.heap := by rw [← hs3]
  have hsz : s3.heap.objs.size = s2.heap.objs.size + 1 := by rw [← hheap, Heap.size_push]
  rw [hheap] at hns₁ hsb₁ ⊢
  have fD : ∀ b ∈ fp, b ≠ D := fun b hb z => by
    obtain ⟨o, ho, _⟩ := T.obj _ _ st2 b hb
    exact Nat.lt_irrefl _ (hD ▸ z ▸ Heap.lt_size ho)
  have flt : ∀ b ∈ fp, b < s3.heap.objs.size := fun b hb => by
    obtain ⟨o, ho, _⟩ := T.obj _ _ st2 b hb
    rw [hsz]; exact Nat.lt_succ_of_lt (Heap.lt_size ho)
  have f3 : ∀ b ∈ fp, FpOk X pins (upd H2 D (.lst [])) b := fun b hb => ⟨by rw [upd_ne (fD b hb)]; exact (f2 b hb).1, (f2 b hb).2⟩
  have I4 := inv_compG C I3 (fp := fp) (fun b hb => ⟨f3 b hb, flt b hb⟩) (t := s2.toks + ([] : List (Str × Value)).length) hns₁ hsb₁
  have old : ∀ b o, s2.heap.get? b = some o → h₁.get? b = some o := fun b o e => by
    have hlt : b < s3.heap.objs.size := by rw [hsz]; exact Nat.lt_succ_of_lt (Heap.lt_size e)
    exact hsb₁.extBut b o (Nat.ne_of_lt hlt) (Heap.get?_push_of_some _ (hheap ▸ Heap.get?_push_of_some _ e))
  have st4 : tn 0 h₁ := T.keep _ _ _ st2 fun b _ o e => old b o e
  have stat : ∀ {H' : Hp}, (∀ b ∈ fp, H' b = none) → ∀ b ∈ fp, FpOk (cxComp X scope cl (xs ++ fr.map (·.1)) fp s3 (upd H2 D (.lst []))) [] H' b := fun hn b hb =>
    ⟨hn b hb, Nat.ne_of_lt (flt b hb), fun hz => by
      rcases List.mem_cons.mp (I3.stkSub b hz) with e | e
      · exact (f3 b hb).2.1 e
      · exact (f3 b hb).2.2.1 e, .inl hb, fun y c e => (f3 b hb).2.2.2.2.1 y c (C.sub y c e), fun p hp => by cases hp⟩
  have loop : ∀ s₃ : Shared, s₃ = { s2 with heap := h₁, toks := s2.toks + ([] : List (Str × Value)).length } →
      codeAny (model X.prog X.w) X.A (.compLoop (.ListComp elt [⟨tgt, iter, ifs, 0⟩] scope pos) 0 (.ref it) (.ref D) (compEnvC scope cl s3.heap.objs.size X.env)) (compPost (model X.prog X.w) X.A E use Qv (.ref D) s3.heap.objs.size) s₃ := by
    intro s₃ e₃
    refine compLoop_go (fun n s' => ∃ i acc H', Inv (cxComp X scope cl (xs ++ fr.map (·.1)) fp s3 (upd H2 D (.lst []))) [] (nones xs.length ++ slotsC fr σ) H' s' ∧ tn i s'.heap ∧ (∀ b ∈ fp, H' b = none) ∧ W i n acc H') ?_ m0
      ⟨0, [], _, by rw [e₃]; have := I4; rw [← hs3] at this ⊢; exact this, by rw [e₃]; exact st4, fun b hb => (f3 b hb).1, w0⟩
    rintro n s' ⟨i, acc, H', Ic, st, frH, w⟩
    obtain ⟨hDl, ⟨stop, qn⟩ | ⟨hlen, go, step⟩⟩ := turn i n acc H' w
    · refine wpAny_mono (T.done (cxComp X scope cl (xs ++ fr.map (·.1)) fp s3 (upd H2 D (.lst []))) rfl rfl rfl hc i [] s' _ H' (fun _ _ => False) Ic (stat frH) st stop) (fun r s4 ⟨hr, I5⟩ => ?_) (fun _ _ z => z)
      subst hr
      obtain ⟨m, hm, _⟩ := I5.loc
      have sz3 : s3.heap.objs.size ≤ s3.heap.objs.size := Nat.le_refl _
      exact hQ s4 H' D s3.heap.objs.size m (comp_back I3 f3 I5) hm I5.free (fun z => Nat.lt_irrefl _ (z ▸ I3.lt)) (I3.nofs sz3) I3.sz
        (fun y c e z => by obtain ⟨v, ob, ho, _⟩ := I3.cell y c e; exact Nat.lt_irrefl _ (z ▸ Heap.lt_size ho)) (fun p hp z => Nat.lt_irrefl _ (z ▸ Heap.lt_size (I3.pin p hp).1)) qn
    · refine wpAny_mono (T.item (cxComp X scope cl (xs ++ fr.map (·.1)) fp s3 (upd H2 D (.lst []))) rfl rfl rfl hc i [] s' _ H' (fun _ _ => False) Ic (stat frH) st go) (fun r s4 ⟨u, hr, h4⟩ => ?_) (fun _ _ z => z)
      subst hr
      refine wpAny_mono h4 (fun _ s5 ⟨y, H5, I5, r5, y5, st5, fr5⟩ => ?_) (fun _ _ z => z)
      have I5' := I5.pinned (stat fr5) (T.obj _ _ st5)
      refine wpAny_mono (hgt fp s3 _ _ s5 _ H5 y u _ I5' r5 (step y H5 y5)) (fun _ s6 ⟨σ6, H6, I6, vs6, lv6, e6, q6⟩ => ?_) (fun _ _ z => z)
      subst e6
      have again : ∀ {s7 : Shared} {H7 : Hp} {m' : Nat} {acc' : List V}, Inv (cxComp X scope cl (xs ++ fr.map (·.1)) fp s3 (upd H2 D (.lst []))) ([] ++ pinsAt fp s5.heap) (vs6 ++ slotsC fr σ) H7 s7 → W (i + 1) m' acc' H7 →
          ∃ i acc H', Inv (cxComp X scope cl (xs ++ fr.map (·.1)) fp s3 (upd H2 D (.lst []))) [] (nones xs.length ++ slotsC fr σ) H' s7 ∧ tn i s7.heap ∧ (∀ b ∈ fp, H' b = none) ∧ W i m' acc H' := fun {s7 H7 m' acc'} I7 w7 => by
        refine ⟨i + 1, acc', H7, (I7.weak (by simp [nones, lv6]) fun j v e => weak_slots lv6 e).unpinned, T.keep _ _ _ st5 fun b hb o e => (I7.pin (b, o) (List.mem_append_right _ (List.mem_append_right _ (mem_pinsAt hb e)))).1, fun b hb => ?_, w7⟩
        obtain ⟨o, e, d⟩ := T.obj _ _ st5 b hb
        exact (I7.pin (b, o) (List.mem_append_right _ (List.mem_append_right _ (mem_pinsAt hb e)))).2.1
      refine wpAny_mono (ht fp s3 _ _ s6 _ H6 _ I6 q6) (fun b s7 ⟨H7, I7, q7⟩ => ?_) (fun _ _ z => z)
      cases b with
      | false =>
        obtain ⟨m', hm, w7⟩ := (show ∃ m', m' < n ∧ W (i + 1) m' acc H7 from q7)
        exact ⟨m', hm, again I7 w7⟩
      | true =>
        refine wpAny_mono (he fp s3 _ _ s7 _ H7 _ I7 q7) (fun v s8 ⟨y8, H8, I8, r8, hD8, m', hm, w8⟩ => ?_) (fun _ _ z => z)
        refine wpAny_mono (mt_append (X := cxComp X scope cl (xs ++ fr.map (·.1)) fp s3 (upd H2 D (.lst []))) _ s8 _ H8 (.ref D) [y8] (.ref D) [v] (fun _ H9 => H9 = upd H8 D (.lst (acc ++ [y8]))) I8 rfl (.cons r8 .nil) ⟨D, acc, y8, rfl, rfl, hD8, hlen, rfl⟩) (fun _ s9 ⟨_, H9, I9, _, e9⟩ => ?_) (fun _ _ z => z)
        subst e9
        exact ⟨m', hm, again I9 w8⟩
  exact codeAny_compStart_list (loop _ rfl) (T.self X.A 0 _ _ _ st4 (loop _ rfl))
/-- a comprehension as a value -/
theorem pe_compG (C : CompOkG X scope cl xs fr) (hc : X.calm = true) (hi : PI X tgt iter wi) (hgt : ∀ fp s H, PG (cxComp X scope cl (xs ++ fr.map (·.1)) fp s H) tgt g) (ht : ∀ fp s H, PTs (cxComp X scope cl (xs ++ fr.map (·.1)) fp s H) ifs tt) (he : ∀ fp s H, PE (cxComp X scope cl (xs ++ fr.map (·.1)) fp s H) elt te)
    (hs : ∀ x, foldedSetIterable iter X.env x = pure x := by intro _; rfl) : PE X (.ListComp elt [⟨tgt, iter, ifs, 0⟩] scope pos) (tCompG xs.length fr wi g tt te) := by
  intro pins s σ H Q I h
  rw [eval_ListComp]
  refine comp_walkG (use := none) (Q := Q) C hc hi hgt ht he I h hs (fun _ _ z => z) ?_
  intro s₄ H₄ D Cn m I4 hm hC hL hF hS hcl hpn q
  refine ⟨m, hm, fun h' hs' => ⟨.ref D, H₄, ?_, rfl, q⟩⟩
  exact I4.turned (t' := s₄.toks) (it := Cn) (fun b o hb e => (hs'.2 b hb).trans e) hC (Ne.symm (Ne.symm hL)) (.inr hS) hcl hpn
/-- name = a comprehension -/
theorem ps_setCG {i : Nat} {y : Str} {py spos : Pos} (C : CompOkG X scope cl xs fr) (hc : X.calm = true) (hN : X.N.Nodup) (hiy : X.N[i]? = some y) (hy : Loc X.env.scope y) (hi : PI X tgt iter wi) (hgt : ∀ fp s H, PG (cxComp X scope cl (xs ++ fr.map (·.1)) fp s H) tgt g) (ht : ∀ fp s H, PTs (cxComp X scope cl (xs ++ fr.map (·.1)) fp s H) ifs tt)
    (he : ∀ fp s H, PE (cxComp X scope cl (xs ++ fr.map (·.1)) fp s H) elt te) (hsw : swapsWith (.ListComp elt [⟨tgt, iter, ifs, 0⟩] scope pos) (some (.Name y py)) spos.line X.env = pure true := by rfl)
    (hs : ∀ x, foldedSetIterable iter X.env x = pure x := by intro _; rfl) (hf : X.fn y = true ∨ X.env.scope.names.lookup y = some .local := by first | exact .inl rfl | exact .inr rfl | assumption) :
    PS X (.Assign [.Name y py] (.ListComp elt [⟨tgt, iter, ifs, 0⟩] scope pos) spos) (tAsg (tCompG xs.length fr wi g tt te) (gName i)) := by
  intro pins s σ H D I h
  rw [exec_Assign_Name_used _ _ _ _ hsw]
  refine wpAny_bind (wpAny_standAt (wpAny_bind ?_))
  show wpAny _ X.A (do let _ ← comprehension (.ListComp elt [⟨tgt, iter, ifs, 0⟩] scope pos) scope X.env _ (newList []) false (eval iter X.env) (some (assign (.Name y py) X.env))) _ _ s
  refine wpAny_bind (wpAny_mono (comp_walkG (use := some (assign (.Name y py) X.env)) (Qv := fun _ s' => SP X pins D .next s') C hc hi hgt ht he I h hs (fun _ _ z => z) ?_) (fun _ s' hq => wpAny_pure (wpAny_pure hq)) fun _ _ z => z)
  intro s₄ H₄ Dl Cn m I4 hm hC hL hF hS hcl hpn q
  obtain ⟨oC, es, ep, ho, hdat, r⟩ := id hm
  have I5 : Inv X (pins ++ [(Cn, oC)]) σ H₄ s₄ := I4.pins_of fun p hp => (List.mem_append.mp hp).elim (fun z => I4.pin p (List.mem_append_right _ z)) fun z => by
    cases List.mem_singleton.mp z
    exact ⟨ho, hC, hL, hF, fun v e => by rw [hdat] at e; cases e⟩
  have hg : PG X (.Name y py) (gName i) := pg_name hN hiy hy hf
  refine wpAny_mono (hg _ s₄ σ H₄ (.ref Dl) (.ref Dl) D.nx I5 rfl q) (fun _ s5 ⟨σ5, H5, I6, q5⟩ => ?_) (fun _ _ z => z)
  have hp := I6.pin (Cn, oC) (List.mem_append_right _ (List.mem_append_right _ (List.mem_singleton.mpr rfl)))
  refine ⟨m, ⟨oC, es, ep, hp.1, hdat, r⟩, fun h' hs' => ⟨σ5, H5, ?_, q5⟩⟩
  exact I6.unpinned.turned (t' := s5.toks) (it := Cn) (fun b o hb e => (hs'.2 b hb).trans e) hp.2.1 hL (.inr hS) hcl hpn
end
theorem compOkG {X : Cx} {scope : Scope} {cl : List (Str × Addr)} {xs : List Str} {fr : List (Str × Nat)} (clos : closureFor scope X.env = pure cl := by rfl) (kind : scope.kind = .function := by rfl)
    (nocell : (scope.names.all fun y => decide (y.2 ≠ .cell)) = true := by rfl) (names : (scope.names.all fun y => decide (y.2 = .local → scope.names.lookup y.1 = some .local)) = true := by decide +kernel)
    (sub : SubL X.env.cells cl := by repeat (first | exact trivial | refine ⟨rfl, ?_⟩))
    (has : ((relabel scope X.env).names.all fun p => (decide (p.2 ≠ .cell) && decide (p.2 ≠ .free)) || (cl.lookup p.1).isSome) = true := by rfl)
    (fre : FreL X.N X.env.scope.names (relabel scope X.env).names fr := by repeat (first | exact trivial | refine ⟨⟨rfl, .inl rfl, .inl rfl⟩, ?_⟩)) : CompOkG X scope cl xs fr where
  clos := clos
  kind := kind
  nocell := fun y hy => of_decide_eq_true (List.all_eq_true.mp nocell y hy)
  names := fun y hy => of_decide_eq_true (List.all_eq_true.mp names y hy)
  sub := fun y c e => SubL.mem sub (y, c) (mem_of_lookup e)
  has := fun y h => by
    have q : ∀ k, (k = NameKind.cell ∨ k = NameKind.free) → (relabel scope X.env).names.lookup y = some k → ∃ c, cl.lookup y = some c := fun k hk e => by
      have m := List.all_eq_true.mp has (y, k) (mem_of_lookup e)
      rcases hk with rfl | rfl
      · exact Option.isSome_iff_exists.mp (by simpa using m)
      · exact Option.isSome_iff_exists.mp (by simpa using m)
    rcases h with e | e
    · exact q _ (.inl rfl) e
    · exact q _ (.inr rfl) e
  fre := FreL.mem fre
section
variable {tt : TT} {te : TE} {g : TG} {fr : List (Str × Nat)} {n : Nat} {σ : St} {R : Hp → Prop} {D : Addr} {H1 : Hp}
theorem compG_list {K : PySem.W.Frag} {a : Addr} {xs : List V} (Pv : Nat → List V → Hp → Prop) (h0 : Pv 0 [] (upd H1 D (.lst []))) (hD : ∀ i acc H2, i ≤ xs.length → Pv i acc H2 → H2 D = some (.lst acc) ∧ acc.length < sizeLine ∧ SqL K H2 a xs)
    (hs : ∀ i x acc H2 (N : List V → Hp → Prop), xs[i]? = some x → (∀ acc' H', Pv (i + 1) acc' H' → N acc' H') → Pv i acc H2 → g x (nones n ++ slotsC fr σ) H2 fun σ1 H3' => ∃ vs : St, vs.length = n ∧ σ1 = vs ++ slotsC fr σ ∧ tt σ1 H3' fun b H4 =>
      if b = true then te σ1 H4 fun y H5 => H5 D = some (.lst acc) ∧ N (acc ++ [y]) (upd H5 D (.lst (acc ++ [y]))) else N acc H4)
    (hd : ∀ acc H2, Pv xs.length acc H2 → R H2) :
    ∃ W : Nat → Nat → List V → Hp → Prop, (∃ m, W 0 m [] (upd H1 D (.lst []))) ∧ ∀ i m acc H2, W i m acc H2 →
      H2 D = some (.lst acc) ∧ (((Itl K a).stop i H2 ∧ R H2) ∨ (acc.length < sizeLine ∧ (Itl K a).go i H2 ∧ ∀ x H3, (Itl K a).yld i H2 x H3 → g x (nones n ++ slotsC fr σ) H3 fun σ1 H3' => ∃ vs : St, vs.length = n ∧ σ1 = vs ++ slotsC fr σ ∧ tt σ1 H3' fun b H4 =>
        if b = true then te σ1 H4 fun y H5 => H5 D = some (.lst acc) ∧ ∃ m', m' < m ∧ W (i + 1) m' (acc ++ [y]) (upd H5 D (.lst (acc ++ [y]))) else ∃ m', m' < m ∧ W (i + 1) m' acc H4)) := by
  refine ⟨fun i m acc H => m = xs.length - i ∧ i ≤ xs.length ∧ Pv i acc H, ⟨xs.length, by simp, Nat.zero_le _, h0⟩, ?_⟩
  rintro i m acc H2 ⟨rfl, hi, p⟩
  obtain ⟨d1, d2, d3⟩ := hD i acc H2 hi p
  refine ⟨d1, ?_⟩
  by_cases hlt : i < xs.length
  · refine .inr ⟨d2, ⟨xs, xs[i], d3, by simp [hlt]⟩, fun x H3 y => ?_⟩
    obtain ⟨e, y⟩ := y
    subst e
    exact hs i x acc _ (fun acc' H' => ∃ m', m' < xs.length - i ∧ m' = xs.length - (i + 1) ∧ i + 1 ≤ xs.length ∧ Pv (i + 1) acc' H') (y xs d3) (fun acc' H' q => ⟨_, by omega, rfl, hlt, q⟩) p
  · have e : i = xs.length := by omega
    subst e
    exact .inl ⟨⟨xs, d3, Nat.le_refl _⟩, hd acc H2 p⟩
theorem compG_enum {K : PySem.W.Frag} {a : Addr} {xs : List V} (Pv : Nat → List V → Hp → Prop) (h0 : Pv 0 [] (upd H1 D (.lst []))) (hD : ∀ i acc H2, i ≤ xs.length → Pv i acc H2 → H2 D = some (.lst acc) ∧ acc.length < sizeLine ∧ SqL K H2 a xs)
    (hs : ∀ i x acc H2 p (N : List V → Hp → Prop), xs[i]? = some x → (∀ acc' H', Pv (i + 1) acc' H' → N acc' H') → Pv i acc H2 → H2 p = none → g (.ref p) (nones n ++ slotsC fr σ) (upd H2 p (.tup [.int (i : Int), x])) fun σ1 H3' => ∃ vs : St, vs.length = n ∧ σ1 = vs ++ slotsC fr σ ∧ tt σ1 H3' fun b H4 =>
      if b = true then te σ1 H4 fun y H5 => H5 D = some (.lst acc) ∧ N (acc ++ [y]) (upd H5 D (.lst (acc ++ [y]))) else N acc H4)
    (hd : ∀ acc H2, Pv xs.length acc H2 → R H2) :
    ∃ W : Nat → Nat → List V → Hp → Prop, (∃ m, W 0 m [] (upd H1 D (.lst []))) ∧ ∀ i m acc H2, W i m acc H2 →
      H2 D = some (.lst acc) ∧ (((Iten K a).stop i H2 ∧ R H2) ∨ (acc.length < sizeLine ∧ (Iten K a).go i H2 ∧ ∀ x H3, (Iten K a).yld i H2 x H3 → g x (nones n ++ slotsC fr σ) H3 fun σ1 H3' => ∃ vs : St, vs.length = n ∧ σ1 = vs ++ slotsC fr σ ∧ tt σ1 H3' fun b H4 =>
        if b = true then te σ1 H4 fun y H5 => H5 D = some (.lst acc) ∧ ∃ m', m' < m ∧ W (i + 1) m' (acc ++ [y]) (upd H5 D (.lst (acc ++ [y]))) else ∃ m', m' < m ∧ W (i + 1) m' acc H4)) := by
  refine ⟨fun i m acc H => m = xs.length - i ∧ i ≤ xs.length ∧ Pv i acc H, ⟨xs.length, by simp, Nat.zero_le _, h0⟩, ?_⟩
  rintro i m acc H2 ⟨rfl, hi, p⟩
  obtain ⟨d1, d2, d3⟩ := hD i acc H2 hi p
  refine ⟨d1, ?_⟩
  by_cases hlt : i < xs.length
  · refine .inr ⟨d2, ⟨xs, xs[i], d3, by simp [hlt]⟩, fun x H3 y => ?_⟩
    obtain ⟨r, z, hr, e, y, e'⟩ := y
    subst e e'
    exact hs i z acc _ r (fun acc' H' => ∃ m', m' < xs.length - i ∧ m' = xs.length - (i + 1) ∧ i + 1 ≤ xs.length ∧ Pv (i + 1) acc' H') (y xs d3) (fun acc' H' q => ⟨_, by omega, rfl, hlt, q⟩) p hr
  · have e : i = xs.length := by omega
    subst e
    exact .inl ⟨⟨xs, d3, Nat.le_refl _⟩, hd acc H2 p⟩
end
end L2
/-! ### turns and cards -/
namespace M24
open PySem L2 PyProof.Rows M26 M12
abbrev T3 := Str × Str × Option Int
abbrev eS : Str := Str.ofString ""
/-- of signs that may stand in data -/
def okS (x : Str) : Prop := PyData.strOk x = true
theorem okS_iff {x : Str} : okS x ↔ ∀ c ∈ x.cps.toList, c < 0x110000 := by
  unfold okS PyData.strOk
  rw [← Array.all_toList, List.all_eq_true]
  exact ⟨fun h c hc => of_decide_eq_true (h c hc), fun h c hc => decide_eq_true (h c hc)⟩
theorem okS_app {x y : Str} (hx : okS x) (hy : okS y) : okS (x ++ y) := okS_iff.mpr fun c hc => by
  have e : (x ++ y).cps.toList = x.cps.toList ++ y.cps.toList := by
    show (x.cps ++ y.cps).toList = _
    simp
  rw [e] at hc
  rcases List.mem_append.mp hc with z | z
  · exact okS_iff.mp hx c z
  · exact okS_iff.mp hy c z
theorem okS_slice {x : Str} (hx : okS x) (l u : Option Int) : okS (Txt.slice x l u) := okS_iff.mpr fun c hc => by
  rw [slice_cut] at hc
  exact okS_iff.mp hx c (List.mem_of_mem_drop (List.mem_of_mem_take hc))
theorem okS_sS (bs : List Bool) : okS (sS bs) := okS_iff.mpr fun c hc => by
  have hc' : c ∈ bs.map cw := by simpa [sS] using hc
  obtain ⟨b, _, rfl⟩ := List.mem_map.mp hc'
  cases b <;> decide
def oV : Option Int → V
  | none => .non
  | some x => .int x
def oD : Option Int → PyData
  | none => .none
  | some x => .int x
def tb3 (t : T3) : HO := .tup [.str t.1, .str t.2.1, oV t.2.2]
def Tns (H : Hp) (rs : List Addr) (ts : List T3) : Prop := Paired (fun r t => H r = some (tb3 t)) rs ts
def TnL (H : Hp) (l : Addr) (ts : List T3) : Prop := ∃ rs : List Addr, H l = some (.lst (rs.map V.ref)) ∧ Tns H rs ts
def Tls (H : Hp) (ls : List Addr) (tss : List (List T3)) : Prop := Paired (fun r ts => TnL H r ts) ls tss
def TsL (H : Hp) (l : Addr) (tss : List (List T3)) : Prop := ∃ ls : List Addr, H l = some (.lst (ls.map V.ref)) ∧ Tls H ls tss
theorem Tns.same {H H' : Hp} {rs : List Addr} {ts : List T3} (e : Same H H') (h : Tns H rs ts) : Tns H' rs ts := Paired.mapP h fun _ _ q => e _ _ q
theorem TnL.same {H H' : Hp} {l : Addr} {ts : List T3} (e : Same H H') (h : TnL H l ts) : TnL H' l ts := let ⟨rs, a, b⟩ := h; ⟨rs, e _ _ a, b.same e⟩
theorem Tls.same {H H' : Hp} {rs : List Addr} {ts : List (List T3)} (e : Same H H') (h : Tls H rs ts) : Tls H' rs ts := Paired.mapP h fun _ _ q => q.same e
theorem TsL.same {H H' : Hp} {l : Addr} {ts : List (List T3)} (e : Same H H') (h : TsL H l ts) : TsL H' l ts := let ⟨rs, a, b⟩ := h; ⟨rs, e _ _ a, b.same e⟩
theorem Tns.length {H : Hp} {rs : List Addr} {ts : List T3} (h : Tns H rs ts) : rs.length = ts.length := Paired.length h
theorem Tls.length {H : Hp} {rs : List Addr} {ts : List (List T3)} (h : Tls H rs ts) : rs.length = ts.length := Paired.length h
def dT (t : T3) : PyData := .tuple [.str t.1, .str t.2.1, oD t.2.2]
theorem oV_rd {K : PySem.W.Frag} {H : Hp} (o : Option Int) : RdD K H (oV o) (oD o) := by
  cases o with
  | none => exact .non
  | some x => exact .int x
theorem tb3_rd {K : PySem.W.Frag} {H : Hp} {r : Addr} {t : T3} (h : H r = some (tb3 t)) : RdD K H (.ref r) (dT t) := .tup (SqT.of h) (.cons (.str _) (.cons (.str _) (.cons (oV_rd _) .nil)))
theorem Tns.rd {K : PySem.W.Frag} {H : Hp} : ∀ {rs : List Addr} {ts : List T3}, Tns H rs ts → RdAll K H (rs.map V.ref) (ts.map dT)
  | _, _, .nil => .nil
  | _, _, .cons r t => .cons (tb3_rd r) (Tns.rd t)
def dTn (ts : List T3) : PyData := .list (ts.map dT)
theorem TnL.rd {K : PySem.W.Frag} {H : Hp} {l : Addr} {ts : List T3} (h : TnL H l ts) : RdD K H (.ref l) (dTn ts) := let ⟨_, a, b⟩ := h; .lst (SqL.of a) b.rd
theorem Tls.rd {K : PySem.W.Frag} {H : Hp} : ∀ {rs : List Addr} {ts : List (List T3)}, Tls H rs ts → RdAll K H (rs.map V.ref) (ts.map dTn)
  | _, _, .nil => .nil
  | _, _, .cons r t => .cons (TnL.rd r) (Tls.rd t)
theorem TsL.rd {K : PySem.W.Frag} {H : Hp} {l : Addr} {ts : List (List T3)} (h : TsL H l ts) : RdD K H (.ref l) (.list (ts.map dTn)) := let ⟨_, a, b⟩ := h; .lst (SqL.of a) b.rd
theorem sml_oD (o : Option Int) : Sml 1 (oD o) := by cases o <;> exact ⟨rfl, by simp [oD, PyData.depth]⟩
theorem sml_tup {A : List PyData} {k : Nat} (h : ∀ d ∈ A, Sml k d) : Sml (k + 1) (.tuple A) := by
  refine ⟨lay_mem fun d hd => (h d hd).1, ?_⟩
  have := depth_mem fun d hd => (h d hd).2
  simp only [PyData.depth]; omega
theorem sml_str {x : Str} (h : okS x) : Sml 1 (.str x) := ⟨h, by simp [PyData.depth]⟩
theorem sml_int (x : Int) : Sml 1 (.int x) := ⟨rfl, by simp [PyData.depth]⟩
theorem sml_bool (x : Bool) : Sml 1 (.bool x) := ⟨rfl, by simp [PyData.depth]⟩
theorem Sml.up {d : PyData} {k j : Nat} (h : Sml k d) (hk : k ≤ j) : Sml j d := ⟨h.1, Nat.le_trans h.2 hk⟩
theorem sml_dT {t : T3} (h1 : okS t.1) (h2 : okS t.2.1) : Sml 2 (dT t) := sml_tup fun d hd => by
  simp only [List.mem_cons, List.not_mem_nil, or_false] at hd
  rcases hd with rfl | rfl | rfl
  · exact sml_str h1
  · exact sml_str h2
  · exact sml_oD _
theorem sml_dTn {ts : List T3} (h : ∀ t ∈ ts, okS t.1 ∧ okS t.2.1) : Sml 3 (dTn ts) := sml_list fun d hd => by
  obtain ⟨t, ht, rfl⟩ := List.mem_map.mp hd
  exact sml_dT (h t ht).1 (h t ht).2
theorem sml_dTs {tss : List (List T3)} (h : ∀ ts ∈ tss, ∀ t ∈ ts, okS t.1 ∧ okS t.2.1) : Sml 4 (.list (tss.map dTn)) := sml_list fun d hd => by
  obtain ⟨t, ht, rfl⟩ := List.mem_map.mp hd
  exact sml_dTn (h t ht)
/-- what a card tells behind the name -/
structure Cd where
  pts : Int
  bs : List Bool
  ms : List Str
  rs : Bool
  tb : List Int
def cd0 : Cd := ⟨0, [], [], false, []⟩
def won1 : Option Int → Int
  | none => 0
  | some x => x
def won2 : Option Int → Int
  | none => 0
  | some x => 2 - x
def stepC (nm : Str) (k : Nat) (t : T3) (c : Cd) : Cd :=
  if t.1 = nm then
    if t.2.1 = eS then ⟨c.pts + 2, c.bs, c.ms, true, c.tb⟩
    else ⟨c.pts + won1 t.2.2, c.bs ++ [true], c.ms ++ [t.2.1], c.rs, c.tb ++ [(k : Int)]⟩
  else if t.2.1 = nm then ⟨c.pts + won2 t.2.2, c.bs ++ [false], c.ms ++ [t.1], c.rs, c.tb ++ [(k : Int)]⟩
  else c
def turnC (nm : Str) (ts : List T3) (c : Cd) : Nat → Cd
  | 0 => c
  | i + 1 => match ts[i]? with
    | some t => stepC nm i t (turnC nm ts c i)
    | none => turnC nm ts c i
def cardD (nm : Str) (tss : List (List T3)) : Nat → Cd
  | 0 => cd0
  | j + 1 => match tss[j]? with
    | some ts => turnC nm ts (cardD nm tss j) ts.length
    | none => cardD nm tss j
theorem turnC_succ {nm : Str} {ts : List T3} {c : Cd} {i : Nat} {t : T3} (h : ts[i]? = some t) : turnC nm ts c (i + 1) = stepC nm i t (turnC nm ts c i) := by
  show (match ts[i]? with | some t => stepC nm i t (turnC nm ts c i) | none => turnC nm ts c i) = _
  rw [h]
theorem cardD_succ {nm : Str} {tss : List (List T3)} {j : Nat} {ts : List T3} (h : tss[j]? = some ts) : cardD nm tss (j + 1) = turnC nm ts (cardD nm tss j) ts.length := by
  show (match tss[j]? with | some ts => turnC nm ts (cardD nm tss j) ts.length | none => cardD nm tss j) = _
  rw [h]
/-- of the turns ahead alone -/
theorem cardD_take {nm : Str} {tss : List (List T3)} {j k : Nat} (h : j ≤ k) : cardD nm (tss.take k) j = cardD nm tss j := by
  induction j with
  | zero => rfl
  | succ j ih =>
    have e : (tss.take k)[j]? = tss[j]? := by rw [List.getElem?_take, if_pos (by omega)]
    cases h2 : tss[j]? with
    | some ts => rw [cardD_succ h2, cardD_succ (e.trans h2), ih (by omega)]
    | none =>
      show (match (tss.take k)[j]? with | some ts => turnC nm ts (cardD nm (tss.take k) j) ts.length | none => cardD nm (tss.take k) j) = (match tss[j]? with | some ts => turnC nm ts (cardD nm tss j) ts.length | none => cardD nm tss j)
      rw [e, h2]; exact ih (by omega)
def Cd.len (c : Cd) (n : Nat) : Prop := c.bs.length ≤ n ∧ c.ms.length ≤ n ∧ c.tb.length ≤ n
theorem Cd.len.up {c : Cd} {n m : Nat} (h : c.len n) (hm : n ≤ m) : c.len m := ⟨Nat.le_trans h.1 hm, Nat.le_trans h.2.1 hm, Nat.le_trans h.2.2 hm⟩
theorem stepC_len {nm : Str} {k n : Nat} {t : T3} {c : Cd} (h : c.len n) : (stepC nm k t c).len (n + 1) := by
  obtain ⟨h1, h2, h3⟩ := h
  unfold stepC
  split
  · split
    · exact ⟨by show c.bs.length ≤ n + 1; omega, by show c.ms.length ≤ n + 1; omega, by show c.tb.length ≤ n + 1; omega⟩
    · exact ⟨by show (c.bs ++ [true]).length ≤ n + 1; rw [List.length_append, List.length_singleton]; omega, by show (c.ms ++ [t.2.1]).length ≤ n + 1; rw [List.length_append, List.length_singleton]; omega, by show (c.tb ++ [(k : Int)]).length ≤ n + 1; rw [List.length_append, List.length_singleton]; omega⟩
  · split
    · exact ⟨by show (c.bs ++ [false]).length ≤ n + 1; rw [List.length_append, List.length_singleton]; omega, by show (c.ms ++ [t.1]).length ≤ n + 1; rw [List.length_append, List.length_singleton]; omega, by show (c.tb ++ [(k : Int)]).length ≤ n + 1; rw [List.length_append, List.length_singleton]; omega⟩
    · exact ⟨by omega, by omega, by omega⟩
theorem turnC_len {nm : Str} {ts : List T3} {c : Cd} {n : Nat} (h : c.len n) (i : Nat) : (turnC nm ts c i).len (n + i) := by
  induction i with
  | zero => exact h
  | succ i ih =>
    cases h2 : ts[i]? with
    | some t => rw [turnC_succ h2]; exact stepC_len ih
    | none =>
      show (match ts[i]? with | some t => stepC nm i t (turnC nm ts c i) | none => turnC nm ts c i).len (n + (i + 1))
      rw [h2]; exact ih.up (by omega)
theorem cardD_len {nm : Str} {tss : List (List T3)} (h : ∀ ts ∈ tss, ts.length ≤ 21) (j : Nat) : (cardD nm tss j).len (21 * j) := by
  induction j with
  | zero => exact ⟨Nat.zero_le _, Nat.zero_le _, Nat.zero_le _⟩
  | succ j ih =>
    cases h2 : tss[j]? with
    | some ts =>
      rw [cardD_succ h2]
      exact (turnC_len ih ts.length).up (by have := h ts (List.mem_of_getElem? h2); omega)
    | none =>
      show (match tss[j]? with | some ts => turnC nm ts (cardD nm tss j) ts.length | none => cardD nm tss j).len (21 * (j + 1))
      rw [h2]; exact ih.up (by omega)
def CardX (H : Hp) (t : Addr) (nm : Str) (c : Cd) : Prop := ∃ m tb : Addr, H t = some (.tup [.str nm, .int c.pts, .str (sS c.bs), .ref m, .bl c.rs, .ref tb]) ∧ H m = some (.tup (c.ms.map V.str)) ∧ H tb = some (.tup (c.tb.map V.int))
theorem CardX.same {H H' : Hp} {t : Addr} {nm : Str} {c : Cd} (e : Same H H') (h : CardX H t nm c) : CardX H' t nm c := let ⟨m, tb, a, b, d⟩ := h; ⟨m, tb, e _ _ a, e _ _ b, e _ _ d⟩
def dCard (nm : Str) (c : Cd) : PyData := .tuple [.str nm, .int c.pts, .str (sS c.bs), .tuple (c.ms.map .str), .bool c.rs, .tuple (c.tb.map .int)]
theorem strs_rd {K : PySem.W.Frag} {H : Hp} : ∀ zs : List Str, RdAll K H (zs.map V.str) (zs.map .str)
  | [] => .nil
  | _ :: zs => .cons (.str _) (strs_rd zs)
theorem ints_rd {K : PySem.W.Frag} {H : Hp} : ∀ zs : List Int, RdAll K H (zs.map V.int) (zs.map .int)
  | [] => .nil
  | _ :: zs => .cons (.int _) (ints_rd zs)
theorem CardX.rd {K : PySem.W.Frag} {H : Hp} {t : Addr} {nm : Str} {c : Cd} (h : CardX H t nm c) : RdD K H (.ref t) (dCard nm c) := by
  obtain ⟨m, tb, a, b, d⟩ := h
  exact .tup (SqT.of a) (.cons (.str _) (.cons (.int _) (.cons (.str _) (.cons (.tup (SqT.of b) (strs_rd _)) (.cons (.bl _) (.cons (.tup (SqT.of d) (ints_rd _)) .nil))))))
theorem sml_dCard {nm : Str} {c : Cd} (hn : okS nm) (hm : ∀ m ∈ c.ms, okS m) : Sml 3 (dCard nm c) := sml_tup fun d hd => by
  simp only [List.mem_cons, List.not_mem_nil, or_false] at hd
  rcases hd with rfl | rfl | rfl | rfl | rfl | rfl
  · exact Sml.up (sml_str hn) (by decide)
  · exact Sml.up (sml_int _) (by decide)
  · exact Sml.up (sml_str (okS_sS _)) (by decide)
  · exact sml_tup fun d hd => by
      obtain ⟨t, ht, rfl⟩ := List.mem_map.mp hd
      exact sml_str (hm t ht)
  · exact Sml.up (sml_bool _) (by decide)
  · exact sml_tup fun d hd => by
      obtain ⟨t, _, rfl⟩ := List.mem_map.mp hd
      exact sml_int _
/-- a turn as the document has it -/
def nmsT (ts : List T3) : List Str := ts.flatMap fun t => if t.2.1 = eS then [t.1] else [t.1, t.2.1]
structure OkT (ts : List T3) : Prop where
  nd : (nmsT ts).Nodup
  ne : ∀ t ∈ ts, t.1 ≠ eS
  rest : ∀ i t, ts[i]? = some t → t.2.1 = eS → i + 1 = ts.length ∧ t.2.2 = some 2
  won : ∀ t ∈ ts, ∀ x, t.2.2 = some x → 0 ≤ x ∧ x ≤ 2
  len : ts.length ≤ 21
  str : ∀ t ∈ ts, okS t.1 ∧ okS t.2.1
theorem stepC_str {nm : Str} {k : Nat} {t : T3} {c : Cd} (ht : okS t.1 ∧ okS t.2.1) (h : ∀ m ∈ c.ms, okS m) : ∀ m ∈ (stepC nm k t c).ms, okS m := by
  unfold stepC
  split
  · split
    · exact h
    · intro m hm
      rcases List.mem_append.mp hm with z | z
      · exact h m z
      · rw [List.mem_singleton.mp z]; exact ht.2
  · split
    · intro m hm
      rcases List.mem_append.mp hm with z | z
      · exact h m z
      · rw [List.mem_singleton.mp z]; exact ht.1
    · exact h
theorem turnC_str {nm : Str} {ts : List T3} {c : Cd} (ht : ∀ t ∈ ts, okS t.1 ∧ okS t.2.1) (h : ∀ m ∈ c.ms, okS m) (i : Nat) : ∀ m ∈ (turnC nm ts c i).ms, okS m := by
  induction i with
  | zero => exact h
  | succ i ih =>
    cases h2 : ts[i]? with
    | some t => rw [turnC_succ h2]; exact stepC_str (ht t (List.mem_of_getElem? h2)) ih
    | none =>
      show ∀ m ∈ (match ts[i]? with | some t => stepC nm i t (turnC nm ts c i) | none => turnC nm ts c i).ms, okS m
      rw [h2]; exact ih
theorem cardD_str {nm : Str} {tss : List (List T3)} (h : ∀ ts ∈ tss, OkT ts) (j : Nat) : ∀ m ∈ (cardD nm tss j).ms, okS m := by
  induction j with
  | zero => exact fun m hm => by cases hm
  | succ j ih =>
    cases h2 : tss[j]? with
    | some ts =>
      rw [cardD_succ h2]
      exact turnC_str (h ts (List.mem_of_getElem? h2)).str ih ts.length
    | none =>
      show ∀ m ∈ (match tss[j]? with | some ts => turnC nm ts (cardD nm tss j) ts.length | none => cardD nm tss j).ms, okS m
      rw [h2]; exact ih
theorem OkT.unlike {ts : List T3} (h : OkT ts) {t : T3} (ht : t ∈ ts) : t.1 ≠ t.2.1 := by
  by_cases e : t.2.1 = eS
  · rw [e]; exact h.ne t ht
  · have hs : [t.1, t.2.1].Sublist (nmsT ts) := by
      obtain ⟨a, b, rfl⟩ := List.append_of_mem ht
      have e1 : nmsT (a ++ t :: b) = nmsT a ++ ([t.1, t.2.1] ++ nmsT b) := by
        unfold nmsT
        rw [List.flatMap_append, List.flatMap_cons, if_neg e]
      rw [e1]
      exact (List.sublist_append_left _ _).trans (List.sublist_append_right _ _)
    have := h.nd.sublist hs
    simp only [List.nodup_cons, List.mem_singleton] at this
    exact this.1
/-- the places' names in the order of a turn -/
def fN (ps : List Int) (zs : List Str) (i : Nat) : Str := zs.getD (ps.getD i 0).toNat eS
def bsN (n : Nat) : List Int := (List.range n).map fun k : Nat => (k : Int)
theorem bsN_mem {n : Nat} {x : Int} (h : x ∈ bsN n) : 0 ≤ x ∧ x < n := by
  obtain ⟨k, hk, rfl⟩ := List.mem_map.mp h
  have := List.mem_range.mp hk
  omega
theorem bsN_nd (n : Nat) : (bsN n).Nodup := by
  unfold bsN
  rw [List.nodup_iff_pairwise_ne, List.pairwise_map, List.pairwise_iff_getElem]
  intro i j hi hj hij
  rw [List.length_range] at hi hj
  simp only [List.getElem_range]
  omega
theorem perm_at {ps : List Int} {n : Nat} (hp : ps.Perm (bsN n)) {i : Nat} (hi : i < n) : ∃ x : Int, ps[i]? = some x ∧ 0 ≤ x ∧ x < n := by
  have hl : ps.length = n := by rw [hp.length_eq]; unfold bsN; rw [List.length_map, List.length_range]
  have h2 : i < ps.length := by omega
  refine ⟨ps[i], by rw [List.getElem?_eq_getElem h2], ?_⟩
  exact bsN_mem (hp.mem_iff.mp (List.getElem_mem h2))
theorem fN_get {ps : List Int} {zs : List Str} (hp : ps.Perm (bsN zs.length)) {i : Nat} (hi : i < zs.length) : ∃ x : Int, ps[i]? = some x ∧ 0 ≤ x ∧ x < zs.length ∧ zs[x.toNat]? = some (fN ps zs i) := by
  obtain ⟨x, hx, x0, x1⟩ := perm_at hp hi
  refine ⟨x, hx, x0, x1, ?_⟩
  have e : ps.getD i 0 = x := by rw [List.getD_eq_getElem?_getD, hx]; rfl
  have h3 : x.toNat < zs.length := by omega
  unfold fN
  rw [e, List.getD_eq_getElem?_getD, List.getElem?_eq_getElem h3]; rfl
theorem fN_inj {ps : List Int} {zs : List Str} (nd : zs.Nodup) (hp : ps.Perm (bsN zs.length)) {i j : Nat} (hi : i < zs.length) (hj : j < zs.length) (e : fN ps zs i = fN ps zs j) : i = j := by
  obtain ⟨x, hx, x0, x1, hz⟩ := fN_get hp hi
  obtain ⟨y, hy, y0, y1, hw⟩ := fN_get hp hj
  rw [e] at hz
  have h1 : x.toNat < zs.length := by omega
  have h2 : y.toNat < zs.length := by omega
  rw [List.getElem?_eq_getElem h1] at hz
  rw [List.getElem?_eq_getElem h2] at hw
  have exy : x.toNat = y.toNat := (List.getElem_inj nd).mp (Option.some.inj (hz.trans hw.symm))
  have exy : x = y := by omega
  subst exy
  have np : ps.Nodup := hp.nodup_iff.mpr (bsN_nd _)
  obtain ⟨l1, e1⟩ := List.getElem?_eq_some_iff.mp hx
  obtain ⟨l2, e2⟩ := List.getElem?_eq_some_iff.mp hy
  exact (List.getElem_inj np).mp (e1.trans e2.symm)
theorem fN_nd {ps : List Int} {zs : List Str} (nd : zs.Nodup) (hp : ps.Perm (bsN zs.length)) {m : Nat} (hm : m ≤ zs.length) : ((List.range m).map (fN ps zs)).Nodup := by
  rw [List.nodup_iff_pairwise_ne, List.pairwise_map, List.pairwise_iff_getElem]
  intro i j hi hj hij
  rw [List.length_range] at hi hj
  simp only [List.getElem_range]
  exact fun e => by
    have := fN_inj nd hp (by omega) (by omega) e
    omega
theorem nmsT_snoc (ts : List T3) (t : T3) : nmsT (ts ++ [t]) = nmsT ts ++ (if t.2.1 = eS then [t.1] else [t.1, t.2.1]) := by
  unfold nmsT
  rw [List.flatMap_append, List.flatMap_cons, List.flatMap_nil, List.append_nil]
def wonOk (o : Option Int) : Prop := ∀ x, o = some x → 0 ≤ x ∧ x ≤ 2
theorem tnl_snoc {H : Hp} {l r : Addr} {ts : List T3} {t : T3} {rs : List Addr} (h : H l = some (.lst (rs.map V.ref))) (pr : Tns H rs ts) (ht : H r = some (tb3 t)) : TnL (L2.upd H l (.lst (rs.map V.ref ++ [.ref r]))) l (ts ++ [t]) := by
  refine ⟨rs ++ [r], by rw [upd_same, List.map_append]; rfl, ?_⟩
  refine Paired.mapP (pairedApp pr (.cons ht .nil)) fun a b q => ?_
  have hne : a ≠ l := fun z => by rw [z, h] at q; cases q
  rw [upd_ne hne]; exact q
end M24
namespace M24
open PySem L2 PyProof.Rows M26 M12
theorem paired_take {α β : Type} {F : α → β → Prop} : ∀ {l : List α} {m : List β}, Paired F l m → ∀ k, Paired F (l.take k) (m.take k)
  | _, _, .nil, k => by rw [List.take_nil, List.take_nil]; exact .nil
  | _, _, .cons _ _, 0 => .nil
  | _, _, .cons h t, k + 1 => .cons h (paired_take t k)
theorem TnL.upd {H : Hp} {r E : Addr} {ts : List T3} {xs : List V} {o : HO} (hE : H E = some (.lst xs)) (hr : r ≠ E) (h : TnL H r ts) : TnL (L2.upd H E o) r ts := by
  obtain ⟨rs, a, b⟩ := h
  refine ⟨rs, by rw [upd_ne hr]; exact a, Paired.mapP b fun x t q => ?_⟩
  have hne : x ≠ E := fun z => by rw [z, hE] at q; cases q
  rw [upd_ne hne]; exact q
theorem Tls.upd {H : Hp} {E : Addr} {ls : List Addr} {tss : List (List T3)} {xs : List V} {o : HO} (hE : H E = some (.lst xs)) (hr : ∀ r ∈ ls, r ≠ E) (h : Tls H ls tss) : Tls (L2.upd H E o) ls tss :=
  paired_in h fun r hrm _ q => q.upd hE (hr r hrm)
theorem cut_last (xs : List V) : cutV xs none (some (-1)) = xs.take (xs.length - 1) := by
  unfold cutV
  have e1 : HT.sIx xs.length 0 none = 0 := rfl
  have e2 : HT.sIx xs.length xs.length (some (-1)) = xs.length - 1 := by
    show (if (-1 : Int) < 0 then (-1 + (xs.length : Int)).toNat else min (-1 : Int).toNat xs.length) = _
    rw [if_pos (by decide)]; omega
  rw [e1, e2, List.drop_zero, Nat.sub_zero]
theorem at_last {α : Type} {xs : List α} {x : α} (h : xs[xs.length - 1]? = some x) : atI xs (-1) = some x := by
  have hl : xs.length - 1 < xs.length := (List.getElem?_eq_some_iff.mp h).1
  unfold atI ixN
  rw [if_neg (by decide), if_pos (by omega)]
  show xs[(-1 + (xs.length : Int)).toNat]? = some x
  rw [show (-1 + (xs.length : Int)).toNat = xs.length - 1 by omega]; exact h
theorem take_last {α : Type} {xs : List α} {x : α} (h : xs[xs.length - 1]? = some x) : xs.take (xs.length - 1) ++ [x] = xs := by
  have hl : xs.length - 1 < xs.length := (List.getElem?_eq_some_iff.mp h).1
  have := List.take_add_one (l := xs) (i := xs.length - 1)
  rw [h, show xs.length - 1 + 1 = xs.length by omega, List.take_length] at this
  exact this.symm
end M24
/-! ### a tuple as a target, in a comprehension -/
namespace L2
open PySem PySem.Spec PyProof.Rows
theorem pg_tupK {X : Cx} {K : PySem.W.Frag} {es : List Expr} {k : Nat} {t : TGs} {n : Nat} {pos : Pos} (hc : X.calm = true) (h : PGs X es t) (hK : X.K = K := by rfl)
    (hn : (assignEach es X.env).length = n := by rfl) (hst : (assignEach es X.env).findIdx? (·.1) = none := by rfl) : PG X (.Tuple es k pos) (gTup K n t) := hK ▸ pg_tup hc h hn hst
end L2
/-! ### a card by its rows -/
namespace M24
open PySem L2 PyProof.Rows M26 M12
abbrev Rw := Nat × T3
def isAt (nm : Str) (t : T3) : Bool := decide (t.1 = nm) || decide (t.2.1 = nm)
def rowsT (nm : Str) (ts : List T3) : Nat → List Rw
  | 0 => []
  | i + 1 => match ts[i]? with
    | some t => rowsT nm ts i ++ (if isAt nm t = true then [(i, t)] else [])
    | none => rowsT nm ts i
def rowsD (nm : Str) (tss : List (List T3)) : Nat → List Rw
  | 0 => []
  | j + 1 => match tss[j]? with
    | some ts => rowsD nm tss j ++ rowsT nm ts ts.length
    | none => rowsD nm tss j
theorem rowsT_succ {nm : Str} {ts : List T3} {i : Nat} {t : T3} (h : ts[i]? = some t) : rowsT nm ts (i + 1) = rowsT nm ts i ++ (if isAt nm t = true then [(i, t)] else []) := by
  show (match ts[i]? with | some t => rowsT nm ts i ++ (if isAt nm t = true then [(i, t)] else []) | none => rowsT nm ts i) = _
  rw [h]
theorem rowsD_succ {nm : Str} {tss : List (List T3)} {j : Nat} {ts : List T3} (h : tss[j]? = some ts) : rowsD nm tss (j + 1) = rowsD nm tss j ++ rowsT nm ts ts.length := by
  show (match tss[j]? with | some ts => rowsD nm tss j ++ rowsT nm ts ts.length | none => rowsD nm tss j) = _
  rw [h]
theorem rowsT_len (nm : Str) (ts : List T3) (i : Nat) : (rowsT nm ts i).length ≤ i := by
  induction i with
  | zero => exact Nat.le_refl _
  | succ i ih =>
    cases h : ts[i]? with
    | some t =>
      rw [rowsT_succ h, List.length_append]
      have : (if isAt nm t = true then [(i, t)] else ([] : List Rw)).length ≤ 1 := by split <;> simp
      omega
    | none =>
      show (match ts[i]? with | some t => rowsT nm ts i ++ (if isAt nm t = true then [(i, t)] else []) | none => rowsT nm ts i).length ≤ _
      rw [h]
      exact Nat.le_succ_of_le ih
theorem rowsD_len {nm : Str} {tss : List (List T3)} (h : ∀ ts ∈ tss, ts.length ≤ 21) (j : Nat) : (rowsD nm tss j).length ≤ 21 * j := by
  induction j with
  | zero => exact Nat.le_refl _
  | succ j ih =>
    cases h2 : tss[j]? with
    | some ts =>
      rw [rowsD_succ h2, List.length_append]
      have h3 := rowsT_len nm ts ts.length
      have h4 := h ts (List.mem_of_getElem? h2)
      omega
    | none =>
      show (match tss[j]? with | some ts => rowsD nm tss j ++ rowsT nm ts ts.length | none => rowsD nm tss j).length ≤ _
      rw [h2]
      show (rowsD nm tss j).length ≤ _
      omega
/-- what holds of each row -/
def RwOk (nm : Str) (p : Rw) : Prop := isAt nm p.2 = true ∧ (p.2.2.1 = eS → p.2.2.2 = some 2)
theorem rowsT_ok {nm : Str} {ts : List T3} (o : OkT ts) (i : Nat) : ∀ p ∈ rowsT nm ts i, RwOk nm p := by
  induction i with
  | zero => exact fun p hp => by cases hp
  | succ i ih =>
    cases h : ts[i]? with
    | some t =>
      rw [rowsT_succ h]
      intro p hp
      rcases List.mem_append.mp hp with z | z
      · exact ih p z
      · by_cases e : isAt nm t = true
        · rw [if_pos e] at z
          rw [List.mem_singleton.mp z]
          exact ⟨e, fun q => (o.rest i t h q).2⟩
        · rw [if_neg e] at z
          cases z
    | none =>
      show ∀ p ∈ (match ts[i]? with | some t => rowsT nm ts i ++ (if isAt nm t = true then [(i, t)] else []) | none => rowsT nm ts i), RwOk nm p
      rw [h]
      exact ih
theorem rowsD_ok {nm : Str} {tss : List (List T3)} (o : ∀ ts ∈ tss, OkT ts) (j : Nat) : ∀ p ∈ rowsD nm tss j, RwOk nm p := by
  induction j with
  | zero => exact fun p hp => by cases hp
  | succ j ih =>
    cases h : tss[j]? with
    | some ts =>
      rw [rowsD_succ h]
      intro p hp
      rcases List.mem_append.mp hp with z | z
      · exact ih p z
      · exact rowsT_ok (o ts (List.mem_of_getElem? h)) _ p z
    | none =>
      show ∀ p ∈ (match tss[j]? with | some ts => rowsD nm tss j ++ rowsT nm ts ts.length | none => rowsD nm tss j), RwOk nm p
      rw [h]
      exact ih
def foldC (nm : Str) (rs : List Rw) (c : Cd) : Cd := rs.foldl (fun c p => stepC nm p.1 p.2 c) c
theorem foldC_app (nm : Str) (a b : List Rw) (c : Cd) : foldC nm (a ++ b) c = foldC nm b (foldC nm a c) := List.foldl_append
theorem stepC_out {nm : Str} {k : Nat} {t : T3} {c : Cd} (h : ¬ isAt nm t = true) : stepC nm k t c = c := by
  have h1 : ¬ t.1 = nm := fun z => h (by unfold isAt; rw [decide_eq_true z]; rfl)
  have h2 : ¬ t.2.1 = nm := fun z => h (by unfold isAt; rw [decide_eq_true z, Bool.or_true])
  unfold stepC
  rw [if_neg h1, if_neg h2]
theorem turnC_rows (nm : Str) (ts : List T3) (c : Cd) (i : Nat) : turnC nm ts c i = foldC nm (rowsT nm ts i) c := by
  induction i with
  | zero => rfl
  | succ i ih =>
    cases h : ts[i]? with
    | some t =>
      rw [turnC_succ h, rowsT_succ h, foldC_app, ← ih]
      by_cases e : isAt nm t = true
      · rw [if_pos e]; rfl
      · rw [if_neg e, stepC_out e]; rfl
    | none =>
      show (match ts[i]? with | some t => stepC nm i t (turnC nm ts c i) | none => turnC nm ts c i) = foldC nm (match ts[i]? with | some t => rowsT nm ts i ++ (if isAt nm t = true then [(i, t)] else []) | none => rowsT nm ts i) c
      rw [h]
      exact ih
theorem cardD_rows (nm : Str) (tss : List (List T3)) (j : Nat) : cardD nm tss j = foldC nm (rowsD nm tss j) cd0 := by
  induction j with
  | zero => rfl
  | succ j ih =>
    cases h : tss[j]? with
    | some ts => rw [cardD_succ h, rowsD_succ h, foldC_app, ← ih, turnC_rows]
    | none =>
      show (match tss[j]? with | some ts => turnC nm ts (cardD nm tss j) ts.length | none => cardD nm tss j) = foldC nm (match tss[j]? with | some ts => rowsD nm tss j ++ rowsT nm ts ts.length | none => rowsD nm tss j) cd0
      rw [h]
      exact ih
def ptsAt (nm : Str) (t : T3) : Int := match t.2.2 with
  | none => 0
  | some x => if t.1 = nm then x else 2 - x
def sideAt (nm : Str) (t : T3) : Bool := decide (t.1 = nm)
def othAt (nm : Str) (t : T3) : Str := if t.1 = nm then t.2.1 else t.1
def meets (rs : List Rw) : List Rw := rs.filter fun p => !decide (p.2.2.1 = eS)
theorem meets_len (rs : List Rw) : (meets rs).length ≤ rs.length := List.length_filter_le _ _
theorem foldC_eq {nm : Str} (nne : nm ≠ eS) : ∀ (rs : List Rw) (c : Cd), (∀ p ∈ rs, RwOk nm p) →
    foldC nm rs c = ⟨c.pts + (rs.map fun p => ptsAt nm p.2).sum, c.bs ++ (meets rs).map (fun p => sideAt nm p.2), c.ms ++ (meets rs).map (fun p => othAt nm p.2), c.rs || decide ((meets rs).length < rs.length), c.tb ++ (meets rs).map (fun p => (p.1 : Int))⟩
  | [], c, _ => by
    show c = _
    cases c
    simp [meets]
  | p :: r, c, h => by
    obtain ⟨ha, hr⟩ := h p List.mem_cons_self
    show foldC nm r (stepC nm p.1 p.2 c) = _
    rw [foldC_eq nne r _ (fun q hq => h q (List.mem_cons_of_mem _ hq))]
    have hl := meets_len r
    by_cases e : p.2.2.1 = eS
    · have e1 : p.2.1 = nm := by
        unfold isAt at ha
        rw [decide_eq_false (show ¬ p.2.2.1 = nm from fun z => nne (by rw [← z, e])), Bool.or_false] at ha
        exact of_decide_eq_true ha
      have em : meets (p :: r) = meets r := by
        unfold meets
        rw [List.filter_cons, if_neg (by simp [e])]
      have ep : ptsAt nm p.2 = 2 := by unfold ptsAt; rw [hr e]; show (if p.2.1 = nm then (2 : Int) else 2 - 2) = 2; rw [if_pos e1]
      have es : stepC nm p.1 p.2 c = ⟨c.pts + 2, c.bs, c.ms, true, c.tb⟩ := by unfold stepC; rw [if_pos e1, if_pos e]
      rw [em, es, List.map_cons, List.sum_cons, ep, decide_eq_true (show (meets r).length < (p :: r).length by rw [List.length_cons]; omega), Bool.or_true, Bool.true_or, Int.add_assoc]
    · have em : meets (p :: r) = p :: meets r := by
        unfold meets
        rw [List.filter_cons, if_pos (by simp [e])]
      have er : decide ((meets (p :: r)).length < (p :: r).length) = decide ((meets r).length < r.length) := by
        rw [em]
        refine decide_eq_decide.mpr ?_
        rw [List.length_cons, List.length_cons]
        omega
      have es : stepC nm p.1 p.2 c = ⟨c.pts + ptsAt nm p.2, c.bs ++ [sideAt nm p.2], c.ms ++ [othAt nm p.2], c.rs, c.tb ++ [(p.1 : Int)]⟩ := by
        unfold stepC sideAt othAt ptsAt
        by_cases e1 : p.2.1 = nm
        · rw [if_pos e1, if_neg e, if_pos e1, decide_eq_true e1]
          cases hw : p.2.2.2 with
          | none => rfl
          | some x => show Cd.mk (c.pts + x) _ _ _ _ = Cd.mk (c.pts + (if p.2.1 = nm then x else 2 - x)) _ _ _ _; rw [if_pos e1]
        · have e2 : p.2.2.1 = nm := by
            unfold isAt at ha
            rw [decide_eq_false e1, Bool.false_or] at ha
            exact of_decide_eq_true ha
          rw [if_neg e1, if_pos e2, if_neg e1, decide_eq_false e1]
          cases hw : p.2.2.2 with
          | none => rfl
          | some x => show Cd.mk (c.pts + (2 - x)) _ _ _ _ = Cd.mk (c.pts + (if p.2.1 = nm then x else 2 - x)) _ _ _ _; rw [if_neg e1]
      rw [er, es, em]
      simp only [List.map_cons, List.sum_cons, List.append_assoc, List.singleton_append, List.cons_append, Int.add_assoc, List.nil_append]
theorem card_eq {nm : Str} (nne : nm ≠ eS) {tss : List (List T3)} (o : ∀ ts ∈ tss, OkT ts) (j : Nat) :
    cardD nm tss j = ⟨((rowsD nm tss j).map fun p => ptsAt nm p.2).sum, (meets (rowsD nm tss j)).map (fun p => sideAt nm p.2), (meets (rowsD nm tss j)).map (fun p => othAt nm p.2), decide ((meets (rowsD nm tss j)).length < (rowsD nm tss j).length), (meets (rowsD nm tss j)).map (fun p => (p.1 : Int))⟩ := by
  rw [cardD_rows, foldC_eq nne _ _ (rowsD_ok o j)]
  show Cd.mk (0 + _) ([] ++ _) ([] ++ _) (false || _) ([] ++ _) = _
  rw [Int.zero_add, List.nil_append, List.nil_append, Bool.false_or, List.nil_append]
/-- the rows on the heap -/
def RwP (H : Hp) (a : Addr) (p : Rw) : Prop := ∃ r : Addr, H a = some (.tup [.int (p.1 : Int), .ref r]) ∧ H r = some (tb3 p.2)
def RwL (H : Hp) (l : Addr) (rs : List Rw) : Prop := ∃ as : List Addr, H l = some (.lst (as.map V.ref)) ∧ Paired (RwP H) as rs
theorem RwP.same {H H' : Hp} {a : Addr} {p : Rw} (e : Same H H') (h : RwP H a p) : RwP H' a p := let ⟨r, x, y⟩ := h; ⟨r, e _ _ x, e _ _ y⟩
theorem RwP.upd {H : Hp} {a E : Addr} {p : Rw} {xs : List V} {o : HO} (hE : H E = some (.lst xs)) (h : RwP H a p) : RwP (L2.upd H E o) a p := by
  obtain ⟨r, x, y⟩ := h
  have h1 : a ≠ E := fun z => by rw [z, hE] at x; cases x
  have h2 : r ≠ E := fun z => by rw [z, hE] at y; unfold tb3 at y; cases y
  exact ⟨r, by rw [upd_ne h1]; exact x, by rw [upd_ne h2]; exact y⟩
theorem RwL.same {H H' : Hp} {l : Addr} {rs : List Rw} (e : Same H H') (h : RwL H l rs) : RwL H' l rs := let ⟨as, a, b⟩ := h; ⟨as, e _ _ a, Paired.mapP b fun _ _ q => q.same e⟩
/-- the sides joined -/
theorem join_sg : ∀ bs : List Bool, Txt.join (Str.ofString "") (bs.map sg) = sS bs := by
  intro bs
  unfold Txt.join
  rw [PySem.StrLaws.glued_eq_join]
  have e0 : Str.ofString "" = Str.empty := by decide +kernel
  rw [e0]
  suffices ∀ bs : List Bool, (Str.join Str.empty (bs.map sg)).cps.toList = bs.map cw by
    have h := this bs
    refine Str.ext' (Array.ext' ?_)
    rw [h]
    unfold sS
    simp
  intro bs
  induction bs with
  | nil => rfl
  | cons b r ih =>
    cases r with
    | nil => rfl
    | cons c r =>
      show (sg b ++ Str.empty ++ Str.join Str.empty ((c :: r).map sg)).cps.toList = cw b :: (c :: r).map cw
      rw [Str.append_empty, Str.cps_append, Array.toList_append, ih]
      rfl
theorem joinOk_sg {bs : List Bool} (h : bs.length ≤ 2000) : JoinOk (Str.ofString "") (bs.map sg) = true := by
  refine PyProof.Rows.joinOk_of_weight ?_ (by decide +kernel)
  have e : ((bs.map sg).map (·.length)).sum = bs.length := by
    clear h
    induction bs with
    | nil => rfl
    | cons b r ih =>
      rw [List.map_cons, List.map_cons, List.sum_cons, ih, List.length_cons]
      have : (sg b).length = 1 := rfl
      omega
  rw [e, List.length_map]
  omega
end M24
/-! ### sides that are fair -/
namespace M28
open PySem L2 PyProof.Rows M26
structure Fair (bs : List Bool) : Prop where
  lean : ∀ i, -2 ≤ leanD (bs.take i) ∧ leanD (bs.take i) ≤ 2
  alike : ∀ i x, bs[i]? = some x → bs[i + 1]? = some x → bs[i + 2]? = some x → False
theorem fair_nil : Fair [] := ⟨fun i => by rw [List.take_nil]; exact ⟨by decide, by decide⟩, fun i x h _ _ => by cases h⟩
theorem Fair.whole {bs : List Bool} (h : Fair bs) : -2 ≤ leanD bs ∧ leanD bs ≤ 2 := by
  have := h.lean bs.length
  rwa [List.take_length] at this
/-- the last two alike: to the other side -/
theorem lean_two (r : List Bool) (x : Bool) : leanD (r ++ [x, x]) = if x then leanD r + 2 else leanD r - 2 := by
  rw [show r ++ [x, x] = (r ++ [x]) ++ [x] by simp, leanD_snoc, leanD_snoc]
  cases x
  · simp only [Bool.false_eq_true, if_false]; omega
  · simp only [if_true]; omega
theorem Fair.two {r : List Bool} {x : Bool} (h : Fair (r ++ [x, x])) : boundD (r ++ [x, x]) = some (!x) := by
  have hw := h.whole
  have hr := h.lean r.length
  rw [List.take_append_of_le_length (Nat.le_refl _), List.take_length] at hr
  rw [lean_two] at hw
  unfold boundD
  rw [lean_two]
  cases x
  · simp only [Bool.false_eq_true, if_false] at hw ⊢
    rw [if_neg (by omega)]
    split
    · rfl
    · simp
  · simp only [if_true] at hw ⊢
    split
    · rfl
    · rw [if_neg (by omega)]; simp
theorem Fair.snoc {bs : List Bool} {b : Bool} (h : Fair bs) (hb : boundD bs = none ∨ boundD bs = some b) : Fair (bs ++ [b]) := by
  have hw := h.whole
  refine ⟨fun i => ?_, fun i x h1 h2 h3 => ?_⟩
  · by_cases hi : i ≤ bs.length
    · rw [List.take_append_of_le_length hi]; exact h.lean i
    · rw [List.take_of_length_le (by rw [List.length_append, List.length_singleton]; omega), leanD_snoc]
      have c1 : leanD bs = 2 → b = false := fun e => by
        have : boundD bs = some false := by unfold boundD; rw [if_pos (by omega)]
        rw [this] at hb
        rcases hb with z | z
        · cases z
        · exact (Option.some.inj z).symm
      have c2 : leanD bs = -2 → b = true := fun e => by
        have : boundD bs = some true := by unfold boundD; rw [if_neg (by omega), if_pos (by omega)]
        rw [this] at hb
        rcases hb with z | z
        · cases z
        · exact (Option.some.inj z).symm
      cases b
      · simp only [Bool.false_eq_true, if_false]
        have : leanD bs ≠ -2 := fun e => by cases c2 e
        omega
      · simp only [if_true]
        have : leanD bs ≠ 2 := fun e => by cases c1 e
        omega
  · have l3 := (List.getElem?_eq_some_iff.mp h3).1
    rw [List.length_append, List.length_singleton] at l3
    by_cases hi : i + 2 < bs.length
    · rw [List.getElem?_append_left (by omega)] at h1 h2 h3
      exact h.alike i x h1 h2 h3
    · have hl : bs.length = i + 2 := by omega
      rw [List.getElem?_append_left (by omega)] at h1 h2
      rw [List.getElem?_append_right (by omega), show i + 2 - bs.length = 0 by omega] at h3
      have hbx : b = x := Option.some.inj h3
      have e : bs = bs.take i ++ [x, x] := by
        have e1 : bs.take (i + 1) = bs.take i ++ [x] := by rw [List.take_add_one, h1]; rfl
        have e2 : bs.take (i + 1 + 1) = bs.take (i + 1) ++ [x] := by rw [List.take_add_one, h2]; rfl
        rw [show i + 1 + 1 = bs.length by omega, List.take_length, e1] at e2
        exact e2.trans (by simp)
      have := e ▸ h
      have hbd := this.two
      rw [← e] at hbd
      rw [hbd] at hb
      rcases hb with z | z
      · cases z
      · have := Option.some.inj z
        rw [hbx] at this
        cases x <;> cases this
/-- the first of two who may meet sits so, the other the other way: both stay fair -/
theorem fair_first {a b : List Bool} {t : Int} (h : Fair a) (hf : Free2 a b) : Fair (a ++ [sitsD a b t]) := h.snoc (by
  cases e : boundD a with
  | none => exact .inl rfl
  | some x => exact .inr (by rw [sits_first hf e]))
theorem fair_second {a b : List Bool} {t : Int} (h : Fair b) (hf : Free2 a b) : Fair (b ++ [!sitsD a b t]) := h.snoc (by
  cases e : boundD b with
  | none => exact .inl rfl
  | some y => exact .inr (by rw [sits_second hf e, Bool.not_not]))
end M28
namespace M28
open PySem L2 PyProof.Rows M26
/-- what stands for those met of old -/
abbrev oldS : Str := Str.ofString "old"
theorem split_slice (x : Str) {a : Int} (h0 : 0 ≤ a) (h1 : a ≤ x.length) : (Txt.slice x none (some a)).cps.toList ++ (Txt.slice x (some a) none).cps.toList = x.cps.toList := by
  have e : ∀ d, clS x.length d (some a) = a.toNat := fun d => by
    show (max 0 (min (if a < 0 then a + (x.length : Int) else a) (x.length : Int))).toNat = _
    rw [if_neg (by omega)]; omega
  have hn : x.cps.toList.length = x.length := by simp [Str.length]
  rw [slice_cut, slice_cut, e, e]
  show (x.cps.toList.drop 0).take (a.toNat - 0) ++ (x.cps.toList.drop a.toNat).take (x.length - a.toNat) = _
  rw [List.drop_zero, Nat.sub_zero, List.take_of_length_le (l := x.cps.toList.drop a.toNat) (by rw [List.length_drop]; omega), List.take_append_drop]
theorem whom_ok (k : Int) : (Txt.slice (Str.ofString "whomeetswhom") none (some k)).cps.toList = [] ∨ 119 ∈ (Txt.slice (Str.ofString "whomeetswhom") none (some k)).cps.toList := by
  rw [slice_cut]
  generalize clS (Str.ofString "whomeetswhom").length (Str.ofString "whomeetswhom").length (some k) = j
  show ((Str.ofString "whomeetswhom").cps.toList.drop 0).take (j - 0) = [] ∨ _ ∈ ((Str.ofString "whomeetswhom").cps.toList.drop 0).take (j - 0)
  have e : (Str.ofString "whomeetswhom").cps.toList = 119 :: [104, 111, 109, 101, 101, 116, 115, 119, 104, 111, 109] := by decide +kernel
  rw [e, List.drop_zero, Nat.sub_zero]
  cases j with
  | zero => exact .inl rfl
  | succ j => exact .inr (by rw [List.take_succ_cons]; exact List.mem_cons_self ..)
theorem nm_old {x : Str} (hx : x.cps.toList = [] ∨ 119 ∈ x.cps.toList) {a : Int} (h0 : 0 ≤ a) (h1 : a ≤ x.length) {f m : Int} {k : Nat} (hm : m ≤ 26) : nmK (Txt.slice x none (some a)) (Txt.slice x (some a) none) f m k ≠ oldS := fun e => by
  have hs := split_slice x h0 h1
  have el : (nmK (Txt.slice x none (some a)) (Txt.slice x (some a) none) f m k).cps.toList = (Txt.slice x none (some a)).cps.toList ++ (sgn f m k).cps.toList ++ (Txt.slice x (some a) none).cps.toList := by
    show ((Txt.slice x none (some a)).cps ++ (sgn f m k).cps ++ (Txt.slice x (some a) none).cps).toList = _
    simp
  have eo : (nmK (Txt.slice x none (some a)) (Txt.slice x (some a) none) f m k).cps.toList = [111, 108, 100] := by rw [e]; decide +kernel
  rw [el] at eo
  rcases hx with z | z
  · rw [z] at hs
    obtain ⟨e1, e2⟩ := List.append_eq_nil_iff.mp hs
    rw [e1, e2] at eo
    have hl := congrArg List.length eo
    rw [List.nil_append, List.append_nil] at hl
    unfold sgn at hl
    rw [if_neg (by omega)] at hl
    cases hl
  · rw [← hs] at z
    have : (119 : Nat) ∈ [111, 108, 100] := by
      rw [← eo]
      rcases List.mem_append.mp z with y | y
      · exact List.mem_append_left _ (List.mem_append_left _ y)
      · exact List.mem_append_right _ y
    revert this; decide
/-- guests, by their numbers -/
structure Gst (n : Nat) (g : Addr) (r m : Nat → Addr) (nm : Nat → Str) : Prop where
  ri : ∀ i < n, ∀ j < n, r i = r j → i = j
  mi : ∀ i < n, ∀ j < n, m i = m j → i = j
  rm : ∀ i < n, ∀ j < n, r i ≠ m j
  rg : ∀ i < n, r i ≠ g ∧ m i ≠ g
  ni : ∀ i < n, ∀ j < n, nm i = nm j → i = j
structure Gok (H : Hp) (n : Nat) (g : Addr) (r m : Nat → Addr) (nm : Nat → Str) (bs : Nat → List Bool) (ms : Nat → List Str) (k : Nat) : Prop where
  lst : H g = some (.lst ((List.range n).map fun i => V.ref (r i)))
  at1 : ∀ i < n, H (r i) = some (.lst [.str (nm i), .str (sS (bs i)), .ref (m i)])
  at2 : ∀ i < n, H (m i) = some (.lst ((ms i).map V.str))
  fair : ∀ i < n, Fair (bs i)
  len : ∀ i < n, (bs i).length ≤ k ∧ (ms i).length ≤ k
  sym : ∀ i < n, ∀ j < n, (nm j ∈ ms i ↔ nm i ∈ ms j)
/-- all but the guests' own lists stays -/
def SameX (n : Nat) (r m : Nat → Addr) (H H' : Hp) : Prop := ∀ b o, H b = some o → (∀ j < n, b ≠ r j ∧ b ≠ m j) → H' b = some o
theorem SameX.trans {n : Nat} {r m : Nat → Addr} {A B C : Hp} (h1 : SameX n r m A B) (h2 : SameX n r m B C) : SameX n r m A C := fun b o e hn => h2 b o (h1 b o e hn) hn
theorem SameX.of {n : Nat} {r m : Nat → Addr} {A B : Hp} (h : Same A B) : SameX n r m A B := fun b o e _ => h b o e
theorem SameX.upd {n : Nat} {r m : Nat → Addr} {A B : Hp} (h : SameX n r m A B) {p : Addr} {o : HO} (hp : ∃ j < n, p = r j ∨ p = m j) : SameX n r m A (L2.upd B p o) := fun b u e hn => by
  obtain ⟨j, hj, hp⟩ := hp
  have hne : b ≠ p := by
    rcases hp with rfl | rfl
    · exact (hn j hj).1
    · exact (hn j hj).2
  rw [upd_ne hne]; exact h b u e hn
theorem Gok.same {H H' : Hp} {n : Nat} {g : Addr} {r m : Nat → Addr} {nm : Nat → Str} {bs : Nat → List Bool} {ms : Nat → List Str} {k : Nat} (h : Gok H n g r m nm bs ms k) (e : Same H H') : Gok H' n g r m nm bs ms k :=
  ⟨e _ _ h.lst, fun i hi => e _ _ (h.at1 i hi), fun i hi => e _ _ (h.at2 i hi), h.fair, h.len, h.sym⟩
theorem range_at {n : Nat} (r : Nat → Addr) {i : Nat} (hi : i < n) : atI ((List.range n).map fun i => V.ref (r i)) (i : Int) = some (.ref (r i)) :=
  atI_nat (by rw [List.getElem?_map, List.getElem?_range hi]; rfl)
/-- two have met -/
def bs2 (bs : Nat → List Bool) (U W : Nat) (b : Bool) : Nat → List Bool := fun i => if i = U then bs i ++ [b] else if i = W then bs i ++ [!b] else bs i
def ms2 (ms : Nat → List Str) (nm : Nat → Str) (U W : Nat) : Nat → List Str := fun i => if i = U then ms i ++ [nm W] else if i = W then ms i ++ [nm U] else ms i
theorem Gok.met {H : Hp} {n : Nat} {g : Addr} {r m : Nat → Addr} {nm : Nat → Str} {bs : Nat → List Bool} {ms : Nat → List Str} {k U W : Nat} {t : Int} (S : Gst n g r m nm) (h : Gok H n g r m nm bs ms k) (hU : U < n) (hW : W < n) (hUW : U ≠ W) (hf : Free2 (bs U) (bs W)) :
    Gok (L2.upd (L2.upd (L2.upd (L2.upd H (r U) (.lst [.str (nm U), .str (sS (bs U ++ [sitsD (bs U) (bs W) t])), .ref (m U)])) (r W) (.lst [.str (nm W), .str (sS (bs W ++ [!sitsD (bs U) (bs W) t])), .ref (m W)])) (m U) (.lst ((ms U ++ [nm W]).map V.str))) (m W) (.lst ((ms W ++ [nm U]).map V.str)))
      n g r m nm (bs2 bs U W (sitsD (bs U) (bs W) t)) (ms2 ms nm U W) (k + 1) := by
  have f1 := fair_first (t := t) (h.fair U hU) hf
  have f2 := fair_second (t := t) (h.fair W hW) hf
  generalize sitsD (bs U) (bs W) t = b at *
  have hr : r U ≠ r W := fun e => hUW (S.ri U hU W hW e)
  have hm : m U ≠ m W := fun e => hUW (S.mi U hU W hW e)
  refine ⟨?_, fun i hi => ?_, fun i hi => ?_, fun i hi => ?_, fun i hi => ?_, fun i hi j hj => ?_⟩
  · rw [upd_ne (S.rg W hW).2.symm, upd_ne (S.rg U hU).2.symm, upd_ne (S.rg W hW).1.symm, upd_ne (S.rg U hU).1.symm]; exact h.lst
  · rw [upd_ne (S.rm i hi W hW), upd_ne (S.rm i hi U hU)]
    unfold bs2
    by_cases e1 : i = U
    · subst e1
      rw [upd_ne hr, upd_same, if_pos rfl]
    · rw [if_neg e1]
      by_cases e2 : i = W
      · subst e2
        rw [upd_same, if_pos rfl]
      · rw [if_neg e2, upd_ne (fun e => e2 (S.ri i hi W hW e)), upd_ne (fun e => e1 (S.ri i hi U hU e))]
        exact h.at1 i hi
  · unfold ms2
    by_cases e1 : i = U
    · subst e1
      rw [upd_ne hm, upd_same, if_pos rfl]
    · rw [if_neg e1]
      by_cases e2 : i = W
      · subst e2
        rw [upd_same, if_pos rfl]
      · rw [if_neg e2, upd_ne (fun e => e2 (S.mi i hi W hW e)), upd_ne (fun e => e1 (S.mi i hi U hU e)), upd_ne (S.rm W hW i hi).symm, upd_ne (S.rm U hU i hi).symm]
        exact h.at2 i hi
  · unfold bs2
    by_cases e1 : i = U
    · subst e1; rw [if_pos rfl]; exact f1
    · rw [if_neg e1]
      by_cases e2 : i = W
      · subst e2; rw [if_pos rfl]; exact f2
      · rw [if_neg e2]; exact h.fair i hi
  · obtain ⟨l1, l2⟩ := h.len i hi
    unfold bs2 ms2
    by_cases e1 : i = U
    · rw [if_pos e1, if_pos e1, List.length_append, List.length_append, List.length_singleton, List.length_singleton]; omega
    · rw [if_neg e1, if_neg e1]
      by_cases e2 : i = W
      · rw [if_pos e2, if_pos e2, List.length_append, List.length_append, List.length_singleton, List.length_singleton]; omega
      · rw [if_neg e2, if_neg e2]; omega
  · have base := h.sym i hi j hj
    have key : ∀ a < n, ∀ c < n, (nm c ∈ ms2 ms nm U W a ↔ (nm c ∈ ms a ∨ (a = U ∧ c = W) ∨ (a = W ∧ c = U))) := fun a ha c hc => by
      unfold ms2
      by_cases e1 : a = U
      · rw [if_pos e1, List.mem_append, List.mem_singleton]
        constructor
        · rintro (z | z)
          · exact .inl z
          · exact .inr (.inl ⟨e1, S.ni c hc W hW z⟩)
        · rintro (z | ⟨_, z⟩ | ⟨z, _⟩)
          · exact .inl z
          · exact .inr (by rw [z])
          · exact absurd (e1.symm.trans z) hUW
      · rw [if_neg e1]
        by_cases e2 : a = W
        · rw [if_pos e2, List.mem_append, List.mem_singleton]
          constructor
          · rintro (z | z)
            · exact .inl z
            · exact .inr (.inr ⟨e2, S.ni c hc U hU z⟩)
          · rintro (z | ⟨z, _⟩ | ⟨_, z⟩)
            · exact .inl z
            · exact absurd z e1
            · exact .inr (by rw [z])
        · rw [if_neg e2]
          constructor
          · exact .inl
          · rintro (z | ⟨z, _⟩ | ⟨z, _⟩)
            · exact z
            · exact absurd z e1
            · exact absurd z e2
    rw [key i hi j hj, key j hj i hi, base]
    constructor
    · rintro (z | ⟨z1, z2⟩ | ⟨z1, z2⟩)
      · exact .inl z
      · exact .inr (.inr ⟨z2, z1⟩)
      · exact .inr (.inl ⟨z2, z1⟩)
    · rintro (z | ⟨z1, z2⟩ | ⟨z1, z2⟩)
      · exact .inl z
      · exact .inr (.inr ⟨z2, z1⟩)
      · exact .inr (.inl ⟨z2, z1⟩)
end M28
/-! ### OWN EXTENSION: min of a list of ints; products of long numbers -/
namespace L2
open PySem PySem.Spec PyProof.Rows PySem.W
section
variable {X : Cx}
def rMinI (K : PySem.W.Frag) : List V → Hp → VK → Prop := fun xs H Q => ∃ (l : Addr) (ns : List Int), xs = [.ref l] ∧ SqL K H l (ns.map V.int) ∧ 0 < ns.length ∧ ∀ M, M ∈ ns → (∀ a ∈ ns, M ≤ a) → Q (.int M) H
theorem call_minI (hc : X.calm = true) : CallR X (.builtin "min") (rMinI X.K) := by
  intro pins s σ H xs us Q I r h
  obtain ⟨l, ns, rfl, hl, hne, q⟩ := h
  obtain ⟨u, rfl, ru⟩ := vals1 r
  cases ru
  obtain ⟨its, rv, pl, hz⟩ := I.list hl
  have hi := intsAre_of rv
  obtain ⟨xs, hx⟩ := hi.allInts.items
  have hl' : s.heap.IsList l (intItems xs) := hx ▸ pl.isList
  have hns : ns = xs.toList.map (·.1) := by
    rw [← nums_intItems, ← hx]
    exact (show numsOf its.toArray.toList = ns from hi.numsOf).symm
  have hsz : 0 < xs.size := by
    have h3 := hne; rw [hns, List.length_map, Array.length_toList] at h3; exact h3
  refine min_intList (I.ok.hd hc) hl' hsz fun v h' tk hv hk => ?_
  obtain ⟨t, rfl⟩ := intItems_at hv
  obtain ⟨h1, h2⟩ := argBest_lt (numAt xs) (xs.size - 1)
  refine ⟨.int (numAt xs (argBest (fun i j => decide (numAt xs i < numAt xs j)) (xs.size - 1))), H, I.kept hk, ⟨t, rfl⟩, q _ ?_ fun a ha => ?_⟩
  · rw [hns, numAt_eq]; exact getD_mem (by rw [List.length_map, Array.length_toList]; omega)
  · rw [hns] at ha
    obtain ⟨j, hj, rfl⟩ := mem_getD ha
    rw [List.length_map, Array.length_toList] at hj
    rw [← numAt_eq]; exact h2 j (by omega)
/-- factors of up to nine hundred figures or so -/
def CMulB (i j : Int) : Prop := i.natAbs < 2 ^ 3000 ∧ j.natAbs < 2 ^ 3000
theorem bits_3000 {k : Int} (hn : k.natAbs < 2 ^ 3000) : Builtin.Int.intBits k ≤ 2 ^ 20 := by
  unfold Builtin.Int.intBits
  split
  · exact Nat.zero_le _
  · have : k.natAbs.log2 < 3000 := by
      rcases Nat.eq_zero_or_pos k.natAbs with h0 | hp
      · rw [h0]; decide
      · exact (Nat.log2_lt (Nat.ne_of_gt hp)).mpr hn
    have e : (2 : Nat) ^ 20 = 1048576 := by decide
    omega
theorem op_mulB : OpR X (binaryOp .Mult) (rI CMulB fun i j => .int (i * j)) := opI fun _ _ _ _ _ _ _ hc q => mul_int q (IntMulOk.of_bits (bits_3000 hc.1) (bits_3000 hc.2))
end
end L2
/-! ### OWN EXTENSION: squares of long numbers -/
namespace L2
open PySem PySem.Spec PyProof.Rows
section
variable {X : Cx}
def CPowB (i j : Int) : Prop := j = 2 ∧ i.natAbs < 2 ^ 3000
theorem op_powB : OpR X (binaryOp .Pow) (rI CPowB fun i j => .int (i ^ j.toNat)) := opI fun _ _ _ _ _ _ _ hc q => pow_int (by rw [hc.1]; decide) (by
  rw [hc.1]
  have h := bits_3000 hc.2
  have e : (2 : Nat) ^ 20 = 1048576 := by decide
  have e2 : (2 : Int) ^ 27 = 134217728 := by decide
  omega) q
end
end L2
/-! ### OWN EXTENSION: xs < ys, lists of as many ints -/
namespace HT
open PySem PySem.SeqAt PySem.MeetsSeq PySem.MeetsSeq3 PyProof.Rows
open PySem.AutoSeq1 (wpAny_loadPart')
theorem lt_loop (l b : Addr) (items items2 : Array Value) (n n2 : Nat) (dd dd2 : Option Addr) (sl sl2 : Array (Option Value)) (ns ms : List Int) (hi : ∀ j (h : j < items.size), ∃ t, items[j] = .int (ns.getD j 0) t) (hj : ∀ j (h : j < items2.size), ∃ t, items2[j] = .int (ms.getD j 0) t) (z1 : items.size = ns.length) (z2 : items2.size = ms.length) (hsz : items.size = items2.size) (k : Nat) :
    ∀ i : Nat, items.size - i = k → Meets (Builtin.«list.__eq__.loop» ⟨[.ref l, .ref b, rawInt i, rawInt 0], []⟩)
      (fun _ R s => s.heap.get? l = some { cls := .type "list", dict := dd, data := .seq items n, slots := sl } ∧ s.heap.get? b = some { cls := .type "list", dict := dd2, data := .seq items2 n2, slots := sl2 } ∧
        R (.ok (.ret (.bool (lexLt (ns.drop i) (ms.drop i))))) s) := by
  induction k with
  | zero =>
    intro i hk prog w A R s h
    obtain ⟨hp, g, d, tk, os⟩ := s; obtain ⟨hl, hb, h⟩ := h
    wp_walk using wpAny_loadPart' hl, wpAny_loadPart' hb
    have hi1 : items[((i : Nat) : Int).toNat]? = none := by simp; omega
    have hi2 : items2[((i : Nat) : Int).toNat]? = none := by simp; omega
    rw [List.drop_eq_nil_of_le (by omega), List.drop_eq_nil_of_le (by omega), lexLt_nil_nil] at h
    rw [hi1, hi2]
    wp_walk using wpAny_loadPart' hl, wpAny_loadPart' hb
    show R (.ok (.ret (.bool (decide (items.size < items2.size))))) _
    rw [decide_eq_false (by omega)]
    exact h
  | succ k ih =>
    intro i hk prog w A R s h
    obtain ⟨hp, g, d, tk, os⟩ := s; obtain ⟨hl, hb, h⟩ := h
    wp_walk using wpAny_loadPart' hl, wpAny_loadPart' hb
    have hlt : i < items.size := by omega
    have hlt2 : i < items2.size := by omega
    have hi1 : items[((i : Nat) : Int).toNat]? = some items[i] := by simp [hlt]
    have hi2 : items2[((i : Nat) : Int).toNat]? = some items2[i] := by simp [hlt2]
    have hc : ((i : Int) + 1) = ((i + 1 : Nat) : Int) := by push_cast; rfl
    have d1 : ns.drop i = ns.getD i 0 :: ns.drop (i + 1) := by
      rw [List.drop_eq_getElem_cons (by omega), List.getD_eq_getElem?_getD, List.getElem?_eq_getElem (by omega)]; rfl
    have d2 : ms.drop i = ms.getD i 0 :: ms.drop (i + 1) := by
      rw [List.drop_eq_getElem_cons (by omega), List.getD_eq_getElem?_getD, List.getElem?_eq_getElem (by omega)]; rfl
    rw [d1, d2, lexLt_cons] at h
    obtain ⟨t, et⟩ := hi i hlt
    obtain ⟨u, eu⟩ := hj i hlt2
    rw [hi1, hi2, et, eu]
    obtain ⟨e, he, hiff⟩ := eqAt_int A.in1 ⟨hp, g, d, tk, os⟩ (ns.getD i 0) t (ms.getD i 0) u
    refine wpAny_bind (he prog w _ _ ?_)
    cases e with
    | true =>
      rw [if_pos (hiff.mp rfl)] at h
      wp_walk
      rw [hc]
      exact ⟨plainId_quiet plain_eq_loop _, codeAny_builtin entry_eq_loop (by
        rw [Around.under_plainId plain_eq_loop _]
        exact ih (i + 1) (by omega) prog w A R _ ⟨hl, hb, h⟩)⟩
    | false =>
      rw [if_neg (fun q => absurd (hiff.mpr q) Bool.false_ne_true)] at h
      have hri := rcLt_int A.in1 ⟨hp, g, d, tk, os⟩ (ns.getD i 0) t (ms.getD i 0) u prog w
      wp_walk using wpAny_loadPart' hl, wpAny_loadPart' hb
      rw [hi1, hi2, et, eu]
      wp_walk using hri
      exact h
theorem list_lt (l b : Addr) (items items2 : Array Value) (n n2 : Nat) (dd dd2 : Option Addr) (sl sl2 : Array (Option Value)) (ns ms : List Int) (hi : ∀ j (h : j < items.size), ∃ t, items[j] = .int (ns.getD j 0) t) (hj : ∀ j (h : j < items2.size), ∃ t, items2[j] = .int (ms.getD j 0) t) (z1 : items.size = ns.length) (z2 : items2.size = ms.length) (hsz : items.size = items2.size) :
    Meets (Builtin.«list.__lt__» ⟨[.ref l, .ref b], []⟩)
      (fun _ R s => s.heap.get? l = some { cls := .type "list", dict := dd, data := .seq items n, slots := sl } ∧ s.heap.get? b = some { cls := .type "list", dict := dd2, data := .seq items2 n2, slots := sl2 } ∧
        R (.ok (.ret (.bool (lexLt ns ms)))) s) := by
  intro prog w A R s h
  obtain ⟨hp, g, d, tk, os⟩ := s; obtain ⟨hl, hb, h⟩ := h
  have f3 := AutoSeq1.sub_list_list
  wp_walk using wpAny_loadPart' hl, wpAny_loadPart' hb
  exact ⟨plainId_quiet plain_eq_loop _, codeAny_builtin entry_eq_loop (by
    rw [Around.under_plainId plain_eq_loop _]
    exact lt_loop l b items items2 n n2 dd dd2 sl sl2 ns ms hi hj z1 z2 hsz _ 0 rfl prog w A R _ ⟨hl, hb, by rw [List.drop_zero, List.drop_zero]; exact h⟩)⟩
end HT
namespace L2
open PySem PySem.Spec PyProof.Rows
section
variable {X : Cx}
def rLtL : R2 := fun x y H Q => ∃ (a b : Addr) (ns ms : List Int), x = .ref a ∧ y = .ref b ∧ H a = some (.lst (ns.map V.int)) ∧ H b = some (.lst (ms.map V.int)) ∧ ns.length = ms.length ∧ Q (.bl (HT.lexLt ns ms)) H
theorem ints_get : ∀ {ns : List Int} {its : List Value}, Vals (ns.map V.int) its → ∀ j (h : j < its.toArray.size), ∃ t, its.toArray[j] = .int (ns.getD j 0) t
  | [], _, r, j, h => by cases r; exact absurd h (Nat.not_lt_zero _)
  | n :: ns, _, r, j, h => by
    cases r with
    | cons q t =>
      obtain ⟨tk, rfl⟩ := q
      cases j with
      | zero => exact ⟨tk, rfl⟩
      | succ j =>
        obtain ⟨t', e⟩ := ints_get t j (by simpa using h)
        exact ⟨t', by simpa using e⟩
theorem op_ltL (hu : X.A.units + 64 < cLine) : OpR X (compareOp .Lt) rLtL := by
  intro pins s σ H x y v u Q I rx ry h
  obtain ⟨a, b, ns, ms, rfl, rfl, ha, hb, hlen, q⟩ := h
  cases rx
  cases ry
  obtain ⟨_, i1, n1, v1, e1⟩ := (show ObjOk X.prog X.w H s.heap a (.lst (ns.map V.int)) from I.hok a _ ha)
  obtain ⟨_, i2, n2, v2, e2⟩ := (show ObjOk X.prog X.w H s.heap b (.lst (ms.map V.int)) from I.hok b _ hb)
  have z1 : i1.toArray.size = ns.length := by have := v1.length; rw [List.length_map] at this; rw [List.size_toArray]; exact this.symm
  have z2 : i2.toArray.size = ms.length := by have := v2.length; rw [List.length_map] at this; rw [List.size_toArray]; exact this.symm
  exact richCompare_meets_room (op := .Lt) ⟨_, e1, rfl⟩ ⟨_, e2, rfl⟩ PySem.F.slot_list_lt PySem.F.entry_list_lt (PySem.F.args_list_lt_2 _ _) (HT.list_lt a b i1.toArray i2.toArray n1 n2 none none #[] #[] ns ms (ints_get v1) (ints_get v2) z1 z2 (by omega))
    ⟨e1, e2, show Value.bool (HT.lexLt ns ms) ≠ Value.notImplemented ∧ EP X pins σ Q (.bool (HT.lexLt ns ms)) s from ⟨(fun x => nomatch x), ⟨.bl _, H, I, rfl, q⟩⟩⟩ (by omega)
end
end L2
/-! ### OWN EXTENSION: range(a, b, 2), both below 128 -/
namespace L2
open PySem PySem.Spec PyProof.Rows
theorem size_s2 {a b : Int} (h : a < b) : Builtin.Range.rangeSize a b 2 = (b - a + 1) / 2 := by
  unfold Builtin.Range.rangeSize
  rw [if_pos (by decide), if_pos h]
  omega
theorem small_s2 {a b : Int} (h0 : 0 ≤ a) (h : a < b) (h1 : b < 128) : Builtin.Range.small a b 2 = true := by
  unfold Builtin.Range.small
  rw [size_s2 h]
  simp only [Builtin.Range.rangeFitsLong, Bool.and_eq_true, Bool.or_eq_true, decide_eq_true_eq, beq_iff_eq, show (2 : Int) > 0 by decide, if_true]
  omega
section
variable {X : Cx} {tg : Expr}
def iRngS2 (ta : TA) : TI := fun σ H R => ta σ H fun vs H1 => ∃ i j : Int, vs = [.int i, .int j, .int 2] ∧ 0 ≤ i ∧ i < j ∧ j < 128 ∧ R (Itrc i 2 ((j - i + 1) / 2).toNat) H1
theorem pi_rangeS2 {a b c : Expr} {ta : TA} {p pos : Pos} (hg : Gl X "range") (hm : X.mg "range" = none) (ha : PA X [a, b, c] ta) (hs : starEach [a, b, c] X.env = [(false, eval a X.env), (false, eval b X.env), (false, eval c X.env)] := by rfl)
    (hs2 : starEach [b, c] X.env = [(false, eval b X.env), (false, eval c X.env)] := by rfl) :
    PI X tg (.Call (.Name "range" p) [a, b, c] [] pos) (iRngS2 ta) := by
  intro pins s σ H R I h
  refine Call_ (ld_blt I hg hm boot_range (PyProof.Rows.callWith_type1 (thn (ha pos pins s σ H _ I h) fun us s1 ⟨vs, H1, I1, r1, q1⟩ => ?_) (by rw [hs, hs2]) (by rw [hs2]; rfl)))
  obtain ⟨i, j, e, i0, i1, i2, q⟩ := q1
  subst e
  cases r1 with
  | cons r rr =>
    cases rr with
    | cons r' rr =>
      cases rr with
      | cons r'' rr =>
        cases rr
        obtain ⟨t, rfl⟩ := r
        obtain ⟨t', rfl⟩ := r'
        obtain ⟨t'', rfl⟩ := r''
        refine call_range_3 (by decide) ?_ (Or.inl (PyProof.noPylong_of_log2 (by decide +kernel)))
        refine wpAny_pyIter_range (IsRange.new ..) (small_s2 i0 i1 i2) ?_
        have I2 : Inv X pins σ H1 { s1 with heap := s1.heap.push { cls := .type "range", data := .fields #[.int i t, .int j t', .int 2 t''] }, toks := s1.toks } := I1.kept fun b o e => Heap.get?_push_of_some _ e
        refine ⟨(s1.heap.push { cls := .type "range", data := .fields #[.int i t, .int j t', .int 2 t''] }).objs.size, [(s1.heap.push { cls := .type "range", data := .fields #[.int i t, .int j t', .int 2 t''] }).objs.size], _, _, H1, rfl,
          I2.kept (t' := s1.toks) fun b o e => Heap.get?_push_of_some _ e, turn_rangec _ i 2 ((j - i + 1) / 2).toNat, ?_, fun b hb => ?_, q⟩
        · have e1 : i + ((0 : Nat) : Int) * 2 = i := by simp
          have e2 : ((((j - i + 1) / 2).toNat : Nat) : Int) - ((0 : Nat) : Int) = Builtin.Range.rangeSize i j 2 := by rw [size_s2 i1]; omega
          show IsRangeIter _ _ (i + ((0 : Nat) : Int) * 2) (((((j - i + 1) / 2).toNat : Nat) : Int) - ((0 : Nat) : Int)) 2
          rw [e1, e2]
          exact Heap.get?_push_size _ rfl
        · have e : b = (s1.heap.push { cls := .type "range", data := .fields #[.int i t, .int j t', .int 2 t''] }).objs.size := by simpa using hb
          subst e
          exact I2.fpOk (Nat.le_refl _) (I2.hok.fresh (Nat.le_refl _))
end
end L2
namespace Rk31_whole_order_of_pairings
open PySem L2 PyProof.Rows R K3 M26 M12 M24
def top (i : Nat) : Stmt := PySem.Challenge.pw_rollcall_k31_whole_order_of_pairings.main.body.getD i (.Pass ⟨0, 0, 0, 0⟩)
abbrev sCell : Stmt := top 11
abbrev sMix : Stmt := top 12
abbrev sNm : Stmt := top 13
abbrev sOrd : Stmt := top 14
abbrev sLn : Stmt := top 15
abbrev sBd : Stmt := top 16
abbrev sWs : Stmt := top 17
abbrev sCs : Stmt := top 18
abbrev sPr : Stmt := top 19
abbrev sTr : Stmt := top 20
abbrev sSu : Stmt := top 21
abbrev sLaw : Stmt := top 22
structure BiR (mg : Str → Option Value) : Prop where
  len : mg "len" = none
  range : mg "range" = none
  min : mg "min" = none
  max : mg "max" = none
  t_list : mg "list" = none
  t_int : mg "int" = none
  t_tuple : mg "tuple" = none
def spPl : Sp := fun vs H Q _ => ∃ bs : List Bool, vs = [.str (sS bs)] ∧ bs.length ≤ 1000 ∧ ∀ H', Same H H' → Q (.int (leanD bs)) H'
def spPb : Sp := fun vs H Q _ => ∃ bs : List Bool, vs = [.str (sS bs)] ∧ bs.length ≤ 1000 ∧ ∀ H', Same H H' → Q (.str (oS (boundD bs))) H'
def spPw : Sp := fun vs H Q _ => ∃ bs : List Bool, vs = [.str (sS bs)] ∧ bs.length ≤ 1000 ∧ ∀ H', Same H H' → Q (.str (oS (wishD bs))) H'
def spMm : Sp := fun vs H Q _ => ∃ (t1 t2 : Addr) (n1 n2 : Str) (a b : List Bool) (m1 m2 : List Str), vs = [.ref t1, .ref t2] ∧ CardM H t1 n1 a m1 ∧ CardM H t2 n2 b m2 ∧ a.length ≤ 60 ∧ b.length ≤ 60 ∧ m1.length ≤ 60 ∧ m2.length ≤ 60 ∧ ∀ H', Same H H' → Q (.bl (mmD n1 n2 a b m1 m2)) H'
/-! ### worries, as numbers -/
abbrev Crd := Str × Cd
theorem CardX.cardM {H : Hp} {t : Addr} {c : Crd} (h : CardX H t c.1 c.2) : CardM H t c.1 c.2.bs c.2.ms := let ⟨m, tb, a, b, d⟩ := h; ⟨_, m, tb, _, _, a, b, d⟩
def cM (c d : Crd) : Bool := mmD c.1 d.1 c.2.bs d.2.bs c.2.ms d.2.ms
def alikeD (a b : List Bool) : Bool := !decide (wishD a = none) && decide (wishD a = wishD b)
abbrev T12 : Int := 10 ^ (12 : Int).toNat
abbrev T6 : Int := 10 ^ (6 : Int).toNat
def sqW (x : Int) : Int := x * x * T12
def wry (c d : Crd) (u v : Int) : Int := sqW (c.2.pts - d.2.pts) + (if alikeD c.2.bs d.2.bs = true then T6 else 0) + v - u - 1
theorem sq2 (x : Int) : x ^ (2 : Int).toNat = x * x := by
  show x ^ 2 = x * x
  rw [Int.pow_succ, Int.pow_succ, Int.pow_zero, Int.one_mul]
def leastD : List Crd → Int
  | [] => 0
  | c :: r => r.foldl (fun m d => if d.2.pts < m then d.2.pts else m) c.2.pts
theorem leastD_snoc (cs : List Crd) (c : Crd) : leastD (cs ++ [c]) = if cs = [] ∨ c.2.pts < leastD cs then c.2.pts else leastD cs := by
  cases cs with
  | nil => simp [leastD]
  | cons a r =>
    show (r ++ [c]).foldl _ _ = _
    rw [List.foldl_append]
    by_cases h : c.2.pts < leastD (a :: r)
    · rw [if_pos (.inr h)]
      show (if c.2.pts < leastD (a :: r) then _ else _) = _
      rw [if_pos h]
    · rw [if_neg (fun z => z.elim (fun y => by cases y) h)]
      show (if c.2.pts < leastD (a :: r) then _ else _) = _
      rw [if_neg h]; rfl
theorem least_fold : ∀ (r : List Crd) (m : Int), (r.foldl (fun m d => if d.2.pts < m then d.2.pts else m) m ≤ m ∧ ∀ d ∈ r, r.foldl (fun m d => if d.2.pts < m then d.2.pts else m) m ≤ d.2.pts) ∧ (r.foldl (fun m d => if d.2.pts < m then d.2.pts else m) m = m ∨ ∃ d ∈ r, r.foldl (fun m d => if d.2.pts < m then d.2.pts else m) m = d.2.pts)
  | [], m => ⟨⟨Int.le_refl _, fun d hd => by cases hd⟩, .inl rfl⟩
  | a :: r, m => by
    rw [List.foldl_cons]
    obtain ⟨⟨h1, h2⟩, h3⟩ := least_fold r (if a.2.pts < m then a.2.pts else m)
    have hm : (if a.2.pts < m then a.2.pts else m) ≤ m ∧ (if a.2.pts < m then a.2.pts else m) ≤ a.2.pts := by split <;> omega
    refine ⟨⟨by omega, fun d hd => ?_⟩, ?_⟩
    · rcases List.mem_cons.mp hd with rfl | z
      · omega
      · exact h2 d z
    · rcases h3 with e | ⟨d, hd, e⟩
      · by_cases ha : a.2.pts < m
        · rw [if_pos ha] at e ⊢
          exact .inr ⟨a, List.mem_cons_self .., e⟩
        · rw [if_neg ha] at e ⊢
          exact .inl e
      · exact .inr ⟨d, List.mem_cons_of_mem _ hd, e⟩
theorem least_eq {cs : List Crd} {M : Int} (hM : M ∈ cs.map fun c => c.2.pts) (hle : ∀ a ∈ cs.map fun c => c.2.pts, M ≤ a) : M = leastD cs := by
  cases cs with
  | nil => cases hM
  | cons c r =>
    obtain ⟨⟨h1, h2⟩, h3⟩ := least_fold r c.2.pts
    have hl : leastD (c :: r) ≤ M := by
      obtain ⟨d, hd, rfl⟩ := List.mem_map.mp hM
      rcases List.mem_cons.mp hd with rfl | z
      · exact h1
      · exact h2 d z
    have hg : M ≤ leastD (c :: r) := by
      rcases h3 with e | ⟨d, hd, e⟩
      · show M ≤ r.foldl _ _
        rw [e]; exact hle _ (List.mem_map.mpr ⟨c, List.mem_cons_self .., rfl⟩)
      · show M ≤ r.foldl _ _
        rw [e]; exact hle _ (List.mem_map.mpr ⟨d, List.mem_cons_of_mem _ hd, rfl⟩)
    omega
/-- the worries of u with those behind, k of them -/
def rowV (cs : List Crd) (u k : Nat) : List Tr := (List.range k).flatMap fun j => match cs[u]?, cs[u + 1 + j]? with
  | some c, some d => if cM c d = true then [((u : Int), ((u + 1 + j : Nat) : Int), wry c d (u : Int) ((u + 1 + j : Nat) : Int))] else []
  | _, _ => []
theorem rowV_succ {cs : List Crd} {u k : Nat} {c d : Crd} (hc : cs[u]? = some c) (hd : cs[u + 1 + k]? = some d) : rowV cs u (k + 1) = rowV cs u k ++ if cM c d = true then [((u : Int), ((u + 1 + k : Nat) : Int), wry c d (u : Int) ((u + 1 + k : Nat) : Int))] else [] := by
  unfold rowV
  rw [List.range_succ, List.flatMap_append, List.flatMap_singleton, hc, hd]
def chrW (cs : List Crd) (c : Crd) (u : Nat) : Int := sqW (c.2.pts - leastD cs) + (cs.length : Int) - (u : Int) - 1
def rowU (cs : List Crd) (u : Nat) : List Tr := rowV cs u (cs.length - (u + 1)) ++ match cs[u]? with
  | some c => if cs.length % 2 = 1 ∧ c.2.rs = false then [((u : Int), (cs.length : Int), chrW cs c u)] else []
  | none => []
def worD (cs : List Crd) (k : Nat) : List Tr := (List.range k).flatMap (rowU cs)
theorem worD_succ (cs : List Crd) (k : Nat) : worD cs (k + 1) = worD cs k ++ rowU cs k := by
  unfold worD; rw [List.range_succ, List.flatMap_append, List.flatMap_singleton]
theorem rowV_len (cs : List Crd) (u k : Nat) : (rowV cs u k).length ≤ k := by
  induction k with
  | zero => exact Nat.le_refl _
  | succ k ih =>
    unfold rowV at ih ⊢
    rw [List.range_succ, List.flatMap_append, List.flatMap_singleton, List.length_append]
    split
    · split
      · rw [List.length_singleton]; omega
      · rw [List.length_nil]; omega
    · rw [List.length_nil]; omega
theorem rowU_len {cs : List Crd} {u : Nat} (h : u < cs.length) : (rowU cs u).length ≤ cs.length := by
  unfold rowU
  rw [List.length_append]
  have := rowV_len cs u (cs.length - (u + 1))
  split
  · split
    · rw [List.length_singleton]; omega
    · rw [List.length_nil]; omega
  · rw [List.length_nil]; omega
theorem worD_len (cs : List Crd) : ∀ k, k ≤ cs.length → (worD cs k).length ≤ k * cs.length
  | 0, _ => Nat.zero_le _
  | k + 1, h => by
    rw [worD_succ, List.length_append, Nat.add_mul, Nat.one_mul]
    have := worD_len cs k (by omega)
    have := rowU_len (show k < cs.length by omega)
    omega
def OkCs (cs : List Crd) : Prop := cs.length ≤ 60 ∧ ∀ c ∈ cs, c.2.bs.length ≤ 60 ∧ c.2.ms.length ≤ 60 ∧ c.2.pts.natAbs < 2 ^ 300
theorem dif_small {a b : Int} (ha : a.natAbs < 2 ^ 300) (hb : b.natAbs < 2 ^ 300) : (a - b).natAbs < 2 ^ 301 := by
  have e : (2 : Nat) ^ 301 = 2 ^ 300 + 2 ^ 300 := by decide +kernel
  rw [e]
  generalize (2 : Nat) ^ 300 = z at *
  omega
theorem big_small {n : Nat} (h : n < 2 ^ 301) : n < 2 ^ 3000 := Nat.lt_of_lt_of_le h (by decide +kernel)
theorem sq_small {x : Int} (h : x.natAbs < 2 ^ 301) : (x * x).natAbs < 2 ^ 3000 := by
  rw [Int.natAbs_mul]
  have : x.natAbs * x.natAbs < 2 ^ 301 * 2 ^ 301 := Nat.mul_lt_mul_of_lt_of_lt h h
  exact Nat.lt_of_lt_of_le this (by decide +kernel)
theorem least_small {cs : List Crd} (h : OkCs cs) (hn : cs ≠ []) : (leastD cs).natAbs < 2 ^ 300 := by
  cases cs with
  | nil => exact absurd rfl hn
  | cons c r =>
    obtain ⟨_, h3⟩ := least_fold r c.2.pts
    rcases h3 with e | ⟨d, hd, e⟩
    · show Int.natAbs (r.foldl _ _) < _
      rw [e]; exact (h.2 c (List.mem_cons_self ..)).2.2
    · show Int.natAbs (r.foldl _ _) < _
      rw [e]; exact (h.2 d (List.mem_cons_of_mem _ hd)).2.2
theorem sml_ds {ts : List Tr} : SeqAt.shaped (.list (ts.map d3)) = true := (sml_d3 ts).shaped (by decide)
theorem crd_rd {K : PySem.W.Frag} {H : Hp} : ∀ {rs : List Addr} {cs : List Crd}, Paired (fun r c => CardX H r c.1 c.2) rs cs → RdAll K H (rs.map V.ref) (cs.map fun c => dCard c.1 c.2)
  | _, _, .nil => .nil
  | _, _, .cons r t => .cons r.rd (crd_rd t)
theorem sml_cds {cs : List Crd} (h : ∀ c ∈ cs, okS c.1 ∧ ∀ m ∈ c.2.ms, okS m) : SeqAt.shaped (.list (cs.map fun c => dCard c.1 c.2)) = true := Sml.shaped (k := 4) (sml_list fun d hd => by
  obtain ⟨c, hc, rfl⟩ := List.mem_map.mp hd
  exact sml_dCard (h c hc).1 (h c hc).2) (by decide)
/-! ### two pairings held against each other -/
/-- squares, wishes alike, places between, of a pair -/
def q3 (cs : List Crd) (p : Int × Int) : Tr := match cs[p.1.toNat]?, cs[p.2.toNat]? with
  | some c, some d => ((c.2.pts - d.2.pts) * (c.2.pts - d.2.pts), if alikeD c.2.bs d.2.bs = true then 1 else 0, p.2 - p.1 - 1)
  | some c, none => ((c.2.pts - leastD cs) * (c.2.pts - leastD cs), 0, (cs.length : Int) - 1 - p.1)
  | none, _ => (0, 0, 0)
def wrP (cs : List Crd) (p : Int × Int) : Int := (q3 cs p).1 * T12 + (q3 cs p).2.1 * T6 + (q3 cs p).2.2
def add3 (a b : Tr) : Tr := (a.1 + b.1, a.2.1 + b.2.1, a.2.2 + b.2.2)
def sum3 (cs : List Crd) (ps : List (Int × Int)) : Tr := ps.foldl (fun a p => add3 a (q3 cs p)) (0, 0, 0)
def sumP (cs : List Crd) (ps : List (Int × Int)) : Int := ps.foldl (fun a p => a + wrP cs p) 0
theorem sum3_snoc (cs : List Crd) (ps : List (Int × Int)) (p : Int × Int) : sum3 cs (ps ++ [p]) = add3 (sum3 cs ps) (q3 cs p) := by unfold sum3; rw [List.foldl_append]; rfl
theorem sumP_snoc (cs : List Crd) (ps : List (Int × Int)) (p : Int × Int) : sumP cs (ps ++ [p]) = sumP cs ps + wrP cs p := by unfold sumP; rw [List.foldl_append]; rfl
theorem sum_gen (cs : List Crd) : ∀ (ps : List (Int × Int)) (a : Int) (b : Tr), a = b.1 * T12 + b.2.1 * T6 + b.2.2 →
    ps.foldl (fun a p => a + wrP cs p) a = (ps.foldl (fun a p => add3 a (q3 cs p)) b).1 * T12 + (ps.foldl (fun a p => add3 a (q3 cs p)) b).2.1 * T6 + (ps.foldl (fun a p => add3 a (q3 cs p)) b).2.2
  | [], _, _, h => h
  | p :: ps, a, b, h => by
    rw [List.foldl_cons, List.foldl_cons]
    refine sum_gen cs ps _ _ ?_
    show a + wrP cs p = (b.1 + (q3 cs p).1) * T12 + (b.2.1 + (q3 cs p).2.1) * T6 + (b.2.2 + (q3 cs p).2.2)
    unfold wrP
    rw [h, Int.add_mul, Int.add_mul]
    generalize b.1 * T12 = x1
    generalize b.2.1 * T6 = x2
    generalize (q3 cs p).1 * T12 = x3
    generalize (q3 cs p).2.1 * T6 = x4
    omega
theorem sum_eq (cs : List Crd) (ps : List (Int × Int)) : sumP cs ps = (sum3 cs ps).1 * T12 + (sum3 cs ps).2.1 * T6 + (sum3 cs ps).2.2 := sum_gen cs ps 0 (0, 0, 0) (by simp)
def OkPr (n : Nat) (p : Int × Int) : Prop := 0 ≤ p.1 ∧ p.1 < p.2 ∧ p.1 < (n : Int) ∧ (p.2 < (n : Int) ∨ (p.2 = (n : Int) ∧ n % 2 = 1))
theorem q3_bnd {cs : List Crd} {p : Int × Int} (hl : cs.length ≤ 40) (h : OkPr cs.length p) : 0 ≤ (q3 cs p).2.1 ∧ (q3 cs p).2.1 ≤ 1 ∧ 0 ≤ (q3 cs p).2.2 ∧ (q3 cs p).2.2 ≤ 40 := by
  obtain ⟨h0, h1, h2, h3⟩ := h
  unfold q3
  split
  · refine ⟨?_, ?_, ?_, ?_⟩
    · show (0 : Int) ≤ if _ then 1 else 0
      split <;> decide
    · show (if _ then (1 : Int) else 0) ≤ 1
      split <;> decide
    · show (0 : Int) ≤ p.2 - p.1 - 1; omega
    · show p.2 - p.1 - 1 ≤ (40 : Int); omega
  · refine ⟨Int.le_refl _, (by show (0 : Int) ≤ 1; decide), ?_, ?_⟩
    · show (0 : Int) ≤ (cs.length : Int) - 1 - p.1; omega
    · show (cs.length : Int) - 1 - p.1 ≤ (40 : Int); omega
  · exact ⟨Int.le_refl _, (by show (0 : Int) ≤ 1; decide), Int.le_refl _, (by show (0 : Int) ≤ 40; decide)⟩
theorem sum3_bnd {cs : List Crd} (hl : cs.length ≤ 40) : ∀ {ps : List (Int × Int)} {b : Tr}, (∀ p ∈ ps, OkPr cs.length p) → 0 ≤ b.2.1 → 0 ≤ b.2.2 →
    0 ≤ (ps.foldl (fun a p => add3 a (q3 cs p)) b).2.1 ∧ (ps.foldl (fun a p => add3 a (q3 cs p)) b).2.1 ≤ b.2.1 + ps.length ∧ 0 ≤ (ps.foldl (fun a p => add3 a (q3 cs p)) b).2.2 ∧ (ps.foldl (fun a p => add3 a (q3 cs p)) b).2.2 ≤ b.2.2 + 40 * ps.length
  | [], b, _, h1, h2 => ⟨h1, by show b.2.1 ≤ _; rw [List.length_nil]; omega, h2, by show b.2.2 ≤ _; rw [List.length_nil]; omega⟩
  | p :: ps, b, h, h1, h2 => by
    obtain ⟨q1, q2, q3', q4⟩ := q3_bnd hl (h p (List.mem_cons_self ..))
    rw [List.foldl_cons]
    have ih := sum3_bnd hl (ps := ps) (b := add3 b (q3 cs p)) (fun q hq => h q (List.mem_cons_of_mem _ hq)) (show 0 ≤ b.2.1 + (q3 cs p).2.1 by omega) (show 0 ≤ b.2.2 + (q3 cs p).2.2 by omega)
    have e1 : (add3 b (q3 cs p)).2.1 = b.2.1 + (q3 cs p).2.1 := rfl
    have e2 : (add3 b (q3 cs p)).2.2 = b.2.2 + (q3 cs p).2.2 := rfl
    rw [e1, e2] at ih
    rw [List.length_cons]
    omega
theorem t12 : T12 = 1000000000000 := by decide +kernel
theorem t6 : T6 = 1000000 := by decide +kernel
/-- the sums compare as the three -/
theorem lex_sum {a b : Tr} (a1 : 0 ≤ a.2.1) (a2 : a.2.1 ≤ 100) (a3 : 0 ≤ a.2.2) (a4 : a.2.2 ≤ 4000) (b1 : 0 ≤ b.2.1) (b2 : b.2.1 ≤ 100) (b3 : 0 ≤ b.2.2) (b4 : b.2.2 ≤ 4000) :
    decide (a.1 * T12 + a.2.1 * T6 + a.2.2 < b.1 * T12 + b.2.1 * T6 + b.2.2) = HT.lexLt [a.1, a.2.1, a.2.2] [b.1, b.2.1, b.2.2] ∧
    decide (a.1 * T12 + a.2.1 * T6 + a.2.2 = b.1 * T12 + b.2.1 * T6 + b.2.2) = decide ([a.1, a.2.1, a.2.2] = [b.1, b.2.1, b.2.2]) := by
  rw [t12, t6]
  constructor
  · rw [HT.lexLt_cons, HT.lexLt_cons, HT.lexLt_cons, HT.lexLt_nil_nil]
    by_cases h1 : a.1 = b.1
    · rw [if_pos h1]
      by_cases h2 : a.2.1 = b.2.1
      · rw [if_pos h2]
        by_cases h3 : a.2.2 = b.2.2
        · rw [if_pos h3]; exact decide_eq_false (by omega)
        · rw [if_neg h3]; exact decide_eq_decide.mpr (by omega)
      · rw [if_neg h2]; exact decide_eq_decide.mpr (by omega)
    · rw [if_neg h1]; exact decide_eq_decide.mpr (by omega)
  · refine decide_eq_decide.mpr ?_
    simp only [List.cons.injEq, and_true]
    omega
/-- who may meet whom here: all -/
def AllM (cs : List Crd) : Prop := (∀ c ∈ cs, c.2.rs = false) ∧ ∀ c ∈ cs, ∀ d ∈ cs, cM c d = true
theorem mem_wor {cs : List Crd} {t : Tr} {k : Nat} (hk : k ≤ cs.length) (h : t ∈ worD cs k) : t.2.2 = wrP cs (t.1, t.2.1) := by
  unfold worD at h
  obtain ⟨u, hu, h⟩ := List.mem_flatMap.mp h
  have hu := List.mem_range.mp hu
  unfold rowU at h
  rcases List.mem_append.mp h with h | h
  · unfold rowV at h
    obtain ⟨j, hj, h⟩ := List.mem_flatMap.mp h
    have hj := List.mem_range.mp hj
    split at h
    · rename_i c d hc hd
      split at h
      · have et := List.mem_singleton.mp h
        subst et
        show wry c d (u : Int) ((u + 1 + j : Nat) : Int) = wrP cs ((u : Int), ((u + 1 + j : Nat) : Int))
        unfold wrP q3
        simp only [Int.toNat_natCast, hc, hd]
        unfold wry sqW
        split
        · rw [Int.one_mul]; generalize (c.2.pts - d.2.pts) * (c.2.pts - d.2.pts) * T12 = x; omega
        · rw [Int.zero_mul]; generalize (c.2.pts - d.2.pts) * (c.2.pts - d.2.pts) * T12 = x; omega
      · cases h
    · cases h
  · split at h
    · rename_i c hc
      split at h
      · have et := List.mem_singleton.mp h
        subst et
        show chrW cs c u = wrP cs ((u : Int), (cs.length : Int))
        unfold wrP q3
        simp only [Int.toNat_natCast, hc, List.getElem?_eq_none (Nat.le_refl _)]
        unfold chrW sqW
        rw [Int.zero_mul]
        generalize (c.2.pts - leastD cs) * (c.2.pts - leastD cs) * T12 = x
        omega
      · cases h
    · cases h
theorem wor_has {cs : List Crd} (am : AllM cs) {p : Int × Int} (h : OkPr cs.length p) : ∃ t ∈ worD cs cs.length, t.1 = p.1 ∧ t.2.1 = p.2 := by
  obtain ⟨h0, h1, h2, h3⟩ := h
  have hu : p.1.toNat < cs.length := by omega
  have hc := List.getElem?_eq_getElem hu
  rcases h3 with h3 | ⟨h3, ho⟩
  · have hv : p.2.toNat < cs.length := by omega
    have ev : p.2.toNat = p.1.toNat + 1 + (p.2.toNat - (p.1.toNat + 1)) := by omega
    have hd : cs[p.1.toNat + 1 + (p.2.toNat - (p.1.toNat + 1))]? = some cs[p.2.toNat] := by rw [← ev]; exact List.getElem?_eq_getElem hv
    have hm := am.2 _ (List.getElem_mem hu) _ (List.getElem_mem hv)
    refine ⟨((p.1.toNat : Int), ((p.1.toNat + 1 + (p.2.toNat - (p.1.toNat + 1)) : Nat) : Int), wry cs[p.1.toNat] cs[p.2.toNat] (p.1.toNat : Int) ((p.1.toNat + 1 + (p.2.toNat - (p.1.toNat + 1)) : Nat) : Int)), ?_, by show (p.1.toNat : Int) = p.1; omega, by show ((p.1.toNat + 1 + (p.2.toNat - (p.1.toNat + 1)) : Nat) : Int) = p.2; omega⟩
    unfold worD
    refine List.mem_flatMap.mpr ⟨p.1.toNat, List.mem_range.mpr hu, ?_⟩
    unfold rowU
    refine List.mem_append_left _ ?_
    unfold rowV
    refine List.mem_flatMap.mpr ⟨p.2.toNat - (p.1.toNat + 1), List.mem_range.mpr (by omega), ?_⟩
    simp only [hc, hd]
    rw [if_pos hm]
    exact List.mem_singleton.mpr rfl
  · refine ⟨((p.1.toNat : Int), (cs.length : Int), chrW cs cs[p.1.toNat] p.1.toNat), ?_, by show (p.1.toNat : Int) = p.1; omega, h3.symm⟩
    unfold worD
    refine List.mem_flatMap.mpr ⟨p.1.toNat, List.mem_range.mpr hu, ?_⟩
    unfold rowU
    refine List.mem_append_right _ ?_
    simp only [hc]
    rw [if_pos ⟨ho, am.1 _ (List.getElem_mem hu)⟩]
    exact List.mem_singleton.mpr rfl
/-- the book of worries -/
def kk (u v : Int) : List Key := [Sum.inl u, Sum.inl v]
theorem putK_few1 {κ : Type} [DecidableEq κ] (kvs : List (κ × V)) (k : κ) (y : V) : (putK kvs k y).length ≤ kvs.length + 1 := by
  cases e : valV kvs k with
  | none => rw [putK_new _ e, List.length_append]; exact Nat.le_refl _
  | some v =>
    unfold putK
    split
    · rw [List.length_map]; exact Nat.le_succ _
    · rw [List.length_append]; exact Nat.le_refl _
structure Bk (cs : List Crd) (kvs : List (List Key × V)) : Prop where
  val : ∀ u v x, valV kvs (kk u v) = some x → x = .int (wrP cs (u, v))
theorem bk_put {cs : List Crd} {kvs : List (List Key × V)} (h : Bk cs kvs) (u v : Int) : Bk cs (putK kvs (kk u v) (.int (wrP cs (u, v)))) := ⟨fun u' v' x hx => by
  rw [valV_put] at hx
  split at hx
  · rename_i e
    have e1 : u' = u := Sum.inl.inj (List.cons.inj e).1
    have e2 : v' = v := Sum.inl.inj (List.cons.inj (List.cons.inj e).2).1
    subst e1 e2
    exact (Option.some.inj hx).symm
  · exact h.val u' v' x hx⟩
theorem put_has {kvs : List (List Key × V)} {k j : List Key} {y : V} (h : (valV kvs j).isSome = true ∨ j = k) : (valV (putK kvs k y) j).isSome = true := by
  rw [valV_put]
  split
  · rfl
  · rename_i e
    exact h.elim id fun z => absurd z e
/-! ### the makers of names, orders and turns -/
section
variable {P : Program} {w : World} {K : PySem.W.Frag} {mg : Str → Option Value} {base : Heap}
seal PA PE PS PSs PT PW
theorem kitII (K : PySem.W.Frag) : PySem.W.kitOne K (.type "int") (.type "int") = some true := by kernel_rfl
theorem kitIB (K : PySem.W.Frag) : PySem.W.kitOne K (.type "int") (.type "bool") = some false := by kernel_rfl
theorem kitBB (K : PySem.W.Frag) : PySem.W.kitOne K (.type "bool") (.type "bool") = some true := by kernel_rfl
theorem kitTT (K : PySem.W.Frag) : PySem.W.kitOne K (.type "tuple") (.type "tuple") = some true := by kernel_rfl
theorem kitLL (K : PySem.W.Frag) : PySem.W.kitOne K (.type "list") (.type "list") = some true := by kernel_rfl
theorem kitSS (K : PySem.W.Frag) : PySem.W.kitOne K (.type "str") (.type "str") = some true := by kernel_rfl
theorem short {n : Nat} (h : n ≤ 1000) : n ≤ sizeLine := Nat.le_of_lt (small1000 h)
theorem str_dec (x y : Str) : decide (V.str x = V.str y) = decide (x = y) := decide_eq_decide.mpr ⟨fun h => V.str.inj h, fun h => by rw [h]⟩
theorem int_dec (x y : Int) : decide (V.int x = V.int y) = decide (x = y) := decide_eq_decide.mpr ⟨fun h => V.int.inj h, fun h => by rw [h]⟩
theorem str_at {zs : List Str} {i : Int} {z : Str} (h0 : 0 ≤ i) (h : zs[i.toNat]? = some z) : atI (zs.map V.str) i = some (.str z) := by
  have e : (zs.map V.str)[i.toNat]? = some (.str z) := by rw [List.getElem?_map, h]; rfl
  have := atI_nat e
  rwa [show ((i.toNat : Nat) : Int) = i by omega] at this
theorem int_at {zs : List Int} {i : Int} {z : Int} (h0 : 0 ≤ i) (h : zs[i.toNat]? = some z) : atI (zs.map V.int) i = some (.int z) := by
  have e : (zs.map V.int)[i.toNat]? = some (.int z) := by rw [List.getElem?_map, h]; rfl
  have := atI_nat e
  rwa [show ((i.toNat : Nat) : Int) = i by omega] at this
theorem scCell : FnScope ["_law_script", "_law_k"] ["_law_script", "_law_k"] (defScope sCell) := ⟨rfl, rfl, rfl, by decide +kernel, rfl, by decide +kernel, by decide +kernel⟩
theorem okCell (d : Df K mg "_law_cell_at" sCell ["_law_script", "_law_k"]) (T : BiR mg) : FnOk P w K mg base CX0 1 d.f d.fd ["_law_script", "_law_k"] (spCell K) := by
  refine d.F.ok scCell (fun vs H Q E h => ?_) (fun cdv A outer s H vs Q E hr h => ?_)
  · obtain ⟨a, ns, k, rfl, _⟩ := h
    rfl
  · obtain ⟨a, ns, k, rfl, hS, h0, q⟩ := h
    refine ⟨_, (pss_cons (ps_if (pt_cmpR op_lt (pv 1) (pe_callB call_len_seq (by rfl) T.len PySem.boot_len (pa_cons (pv 0) pa_nil)) (nomark _)) (pss_one (ps_ret (pe_ix ix_list (pv 0) (pv 1) (fun _ _ => rfl)))) pss_nil)
      (pss_one (ps_ret pe_int))), ?_⟩
    refine ⟨_, rfl, _, rfl, a, _, rfl, .inl hS, _, _, rfl, rfl, _, rfl, ?_⟩
    refine ite2 (fun hc => ?_) (fun hc => ?_)
    · have hlt := of_decide_eq_true hc
      rw [List.length_map] at hlt
      obtain ⟨z, hz⟩ := atI_int h0 hlt
      exact ⟨_, rfl, _, rfl, a, _, _, _, rfl, rfl, hS, hz, q z⟩
    · exact q _
def spMix : Sp := fun vs H Q _ => ∃ a k : Int, vs = [.int a, .int k] ∧ 0 ≤ k ∧ k ≤ 1000 ∧ ∀ z : Int, 0 ≤ z → Q (.int z) H
theorem scMix : FnScope ["_law_seed", "_law_k", "_law_number"] ["_law_seed", "_law_k"] (defScope sMix) := ⟨rfl, rfl, rfl, by decide +kernel, rfl, by decide +kernel, by decide +kernel⟩
theorem okMix (d : Df K mg "_law_mix" sMix ["_law_seed", "_law_k"]) : FnOk P w K mg base CX0 1 d.f d.fd ["_law_seed", "_law_k"] spMix := by
  refine d.F.ok scMix (fun vs H Q E h => ?_) (fun cdv A outer s H vs Q E hr h => ?_)
  · obtain ⟨_, _, rfl, _⟩ := h
    rfl
  · obtain ⟨a, k, rfl, k0, k1, q⟩ := h
    refine ⟨_, (pss_cons (ps_set (i := 2) scMix.nd rfl (by first | exact Or.inl rfl | exact Or.inr rfl) (pe_op op_mod (pe_op op_mul (pe_op op_add (pe_op op_add (pe_op op_add (pe_op op_mod (pv 0) (pe_op op_pow pe_int pe_int)) (pe_op op_mul pe_int (pv 1))) (pe_op op_mul (pe_op op_mul (pv 1) (pv 1)) (pv 1))) pe_int) pe_int) pe_int))
      (pss_one (ps_ret (pe_op op_mod (pe_op op_mul (pv 2) pe_int) pe_int)))), ?_⟩
    refine ⟨_, rfl, _, _, rfl, rfl, ⟨by decide, by decide, by decide⟩, _, _, rfl, rfl, pw _, _, rfl, _, _, rfl, rfl, .inl ⟨by decide, by decide⟩, _, _, rfl, rfl, _, rfl, _, rfl, _, _, rfl, rfl, .inl ⟨(by show -(2 ^ 64) < k; omega), (by show k < 2 ^ 64; omega)⟩, _, rfl, _, _, rfl, rfl, .inr ⟨(by show -(2 ^ 64) < k; omega), (by show k < 2 ^ 64; omega)⟩, _, _, rfl, rfl, _, _, rfl, rfl, _, _, rfl, rfl, .inr ⟨by decide, by decide⟩, _, _, rfl, rfl, (by show (0 : Int) < 1000003; decide), ?_⟩
    exact ⟨_, rfl, _, _, rfl, rfl, .inr ⟨by decide, by decide⟩, _, _, rfl, rfl, (by show (0 : Int) < 999983; decide), q _ (Int.emod_nonneg _ (by decide))⟩
def spNm : Sp := fun vs H Q _ => ∃ c m : Int, vs = [.int c, .int m] ∧ 0 ≤ m ∧ m ≤ 40 ∧ ∀ (l : Addr) (zs : List Str) (H' : Hp), H l = none → Same H H' → H' l = some (.lst (zs.map V.str)) → zs.length = m.toNat → zs.Nodup → (∀ z ∈ zs, z ≠ M28.oldS ∧ okS z) → Q (.ref l) H'
theorem sgn_ok {f m : Int} {k : Nat} (hm : (k : Int) < m) (h40 : m ≤ 40) : okS (sgn f m k) := okS_iff.mpr fun c hc => by
  have b := Int.emod_lt_of_pos (f + (0 + (k : Int))) (show (0 : Int) < 26 by decide)
  unfold sgn at hc
  split at hc
  · have hc' : c ∈ [97 + ((f + (0 + (k : Int))) % 26).toNat, 97 + ((0 + (k : Int)) / 26).toNat] := hc
    simp only [List.mem_cons, List.not_mem_nil, or_false] at hc'
    rcases hc' with rfl | rfl <;> omega
  · have hc' : c ∈ [97 + ((f + (0 + (k : Int))) % 26).toNat] := hc
    simp only [List.mem_cons, List.not_mem_nil, or_false] at hc'
    rcases hc' with rfl; omega
theorem nmK_ok {y1 y2 : Str} {f m : Int} {k : Nat} (h1 : y1.length ≤ 12) (h2 : y2.length ≤ 12) (o1 : okS y1) (o2 : okS y2) (hm : (k : Int) < m) (h40 : m ≤ 40) : nmK y1 y2 f m k ≠ eS ∧ (nmK y1 y2 f m k).length ≤ 26 ∧ okS (nmK y1 y2 f m k) := by
  have lz := sgn_len f m k
  have lp : 1 ≤ (sgn f m k).length := by
    unfold sgn
    split
    · exact (show 1 ≤ 2 by decide)
    · exact Nat.le_refl 1
  have le : (nmK y1 y2 f m k).length = y1.length + (sgn f m k).length + y2.length := by
    show ((y1.cps ++ (sgn f m k).cps) ++ y2.cps).size = _
    rw [Array.size_append, Array.size_append]; rfl
  refine ⟨fun e => ?_, by omega, okS_app (okS_app o1 (sgn_ok hm h40)) o2⟩
  have : (nmK y1 y2 f m k).length = 0 := by rw [e]; decide +kernel
  omega
theorem nm_old2 {x : Str} (hx : x.cps.toList = [] ∨ 119 ∈ x.cps.toList) {a : Int} (h0 : 0 ≤ a) (h1 : a ≤ x.length) {f m : Int} {k : Nat} : nmK (Txt.slice x none (some a)) (Txt.slice x (some a) none) f m k ≠ M28.oldS := fun e => by
  have hs := M28.split_slice x h0 h1
  have el : (nmK (Txt.slice x none (some a)) (Txt.slice x (some a) none) f m k).cps.toList = (Txt.slice x none (some a)).cps.toList ++ (sgn f m k).cps.toList ++ (Txt.slice x (some a) none).cps.toList := by
    show ((Txt.slice x none (some a)).cps ++ (sgn f m k).cps ++ (Txt.slice x (some a) none).cps).toList = _
    simp
  have eo : (nmK (Txt.slice x none (some a)) (Txt.slice x (some a) none) f m k).cps.toList = [111, 108, 100] := by rw [e]; decide +kernel
  rw [el] at eo
  rcases hx with z | z
  · rw [z] at hs
    obtain ⟨e1, e2⟩ := List.append_eq_nil_iff.mp hs
    rw [e1, e2] at eo
    have hl := congrArg List.length eo
    rw [List.nil_append, List.append_nil] at hl
    have := sgn_len f m k
    have hl : (sgn f m k).length = 3 := hl
    omega
  · rw [← hs] at z
    have : (119 : Nat) ∈ [111, 108, 100] := by
      rw [← eo]
      rcases List.mem_append.mp z with y | y
      · exact List.mem_append_left _ (List.mem_append_left _ y)
      · exact List.mem_append_right _ y
    revert this; decide
theorem scNm : FnScope ["_law_cell", "_law_many", "_law_letters", "_law_base", "_law_at", "_law_first", "_law_names_here", "_law_k", "_law_sign"] ["_law_cell", "_law_many"] (defScope sNm) := ⟨rfl, rfl, rfl, by decide +kernel, rfl, by decide +kernel, by decide +kernel⟩
theorem okNm (d : Df K mg "_law_names" sNm ["_law_cell", "_law_many"]) (T : BiR mg) : FnOk P w K mg base CX0 1 d.f d.fd ["_law_cell", "_law_many"] spNm := by
  refine d.F.ok scNm (fun vs H Q E h => ?_) (fun cdv A outer s H vs Q E hr h => ?_)
  · obtain ⟨_, _, rfl, _⟩ := h
    rfl
  · obtain ⟨c, m, rfl, m0, m1, q⟩ := h
    refine ⟨_, (pss_cons (ps_set (i := 2) scNm.nd rfl (by first | exact Or.inl rfl | exact Or.inr rfl) pe_str)
      (pss_cons (ps_set (i := 3) scNm.nd rfl (by first | exact Or.inl rfl | exact Or.inr rfl) (pe_slice sl_strP pe_str po_none (po_some (pe_op op_mod (pv 0) pe_int))))
      (pss_cons (ps_set (i := 4) scNm.nd rfl (by first | exact Or.inl rfl | exact Or.inr rfl) (pe_op op_mod (pe_op op_fdiv (pv 0) pe_int) (pe_op op_add (pe_callB call_len_str (by rfl) T.len PySem.boot_len (pa_cons (pv 3) pa_nil)) pe_int)))
      (pss_cons (ps_set (i := 5) scNm.nd rfl (by first | exact Or.inl rfl | exact Or.inr rfl) (pe_op op_mod (pe_op op_fdiv (pv 0) pe_int) pe_int))
      (pss_cons (ps_set (i := 6) scNm.nd rfl (by first | exact Or.inl rfl | exact Or.inr rfl) (pe_lst pa_nil))
      (pss_cons (ps_for PassesOwn.never rfl (pi_range1 (by rfl) T.range (pa_cons (pv 1) pa_nil)) (pg_name (i := 7) scNm.nd rfl (by first | exact Or.inl rfl | exact Or.inr rfl)) (pss_cons (ps_set (i := 8) scNm.nd rfl (by first | exact Or.inl rfl | exact Or.inr rfl) (pe_ix ix_str (pv 2) (pe_op op_mod (pe_op op_add (pv 5) (pv 7)) pe_int) (fun _ _ => rfl)))
      (pss_cons (ps_if (pt_cmpR op_gt (pv 1) pe_int (nomark _)) (pss_one (ps_set (i := 8) scNm.nd rfl (by first | exact Or.inl rfl | exact Or.inr rfl) (pe_op op_add_str (pv 8) (pe_ix ix_str (pv 2) (pe_op op_fdiv (pv 7) pe_int) (fun _ _ => rfl))))) pss_nil)
      (pss_one (ps_expr (pe_bm PySem.F.plainAttrs_list PySem.F.slot_list_append PySem.F.type_list_append mt_append (pv 6) (pa_cons (pe_op op_add_str (pe_op op_add_str (pe_slice sl_strP (pv 3) po_none (po_some (pv 4))) (pv 8)) (pe_slice sl_strP (pv 3) (po_some (pv 4)) po_none)) pa_nil)))))))
      (pss_one (ps_ret (pv 6))))))))), ?_⟩
    refine ⟨_, rfl, _, _, rfl, rfl, (by show (0 : Int) < 11; decide), _, rfl, _, rfl, (by decide +kernel), ?_⟩
    have lb : (Txt.slice (Str.ofString "whomeetswhom") none (some (c % 11))).length ≤ 12 := Nat.le_trans (Txt.slice_le _ _ _) (by decide +kernel)
    have sb : (Txt.slice (Str.ofString "whomeetswhom") none (some (c % 11))).length ≤ sizeLine := short (by omega)
    refine ⟨_, rfl, _, _, rfl, rfl, ⟨by decide, by decide⟩, _, rfl, _, rfl, sb, _, _, rfl, rfl, _, _, rfl, rfl, (by omega), ?_⟩
    refine ⟨_, rfl, _, _, rfl, rfl, ⟨by decide, by decide⟩, _, _, rfl, rfl, (by show (0 : Int) < 26; decide), ?_⟩
    refine ⟨Nat.zero_le _, fun l hl => ?_⟩
    have s1 := same_new (o := .lst []) hl
    obtain ⟨bse, hbse⟩ : ∃ z, z = Txt.slice (Str.ofString "whomeetswhom") none (some (c % 11)) := ⟨_, rfl⟩
    rw [← hbse] at lb sb
    have hy1 := Txt.slice_le bse none (some (c / 11 % ((bse.length : Int) + 1)))
    have hy2 := Txt.slice_le bse (some (c / 11 % ((bse.length : Int) + 1))) none
    refine ⟨_, rfl, _, rfl, by omega, by omega, for_range (fun i σ H2 => ∃ (x7 x8 : Option V), σ = [some (.int c), some (.int m), some (.str abcS), some (.str bse), some (.int (c / 11 % ((bse.length : Int) + 1))), some (.int (c / 132 % 26)), some (.ref l), x7, x8] ∧ Same H H2 ∧ H2 l = some (.lst (((List.range i).map (nmK (Txt.slice bse none (some (c / 11 % ((bse.length : Int) + 1)))) (Txt.slice bse (some (c / 11 % ((bse.length : Int) + 1))) none) (c / 132 % 26) m)).map V.str)))
      ⟨none, none, by rw [hbse]; rfl, s1, upd_same⟩ ?_ ?_⟩
    · rintro i σ H2 hi ⟨x7, x8, rfl, s2, h2⟩
      have im : (i : Int) < m := by omega
      have hc1 := at_let (i := (c / 132 % 26 + (0 + (i : Int))) % 26) (Int.emod_nonneg _ (by decide)) (Int.emod_lt_of_pos _ (by decide))
      have hc2 := at_let (i := (0 + (i : Int)) / 26) (by omega) (by omega)
      refine ⟨_, rfl, _, rfl, _, rfl, _, _, rfl, rfl, _, _, rfl, rfl, (by show (0 : Int) < 26; decide), _, _, _, rfl, rfl, (by decide +kernel), hc1, ?_⟩
      try dsimp only
      refine ifP_exact (decide (m > 26)) (fun σ' H' => H' = H2 ∧ σ' = [some (.int c), some (.int m), some (.str abcS), some (.str bse), some (.int (c / 11 % ((bse.length : Int) + 1))), some (.int (c / 132 % 26)), some (.ref l), some (.int (0 + (i : Int))), some (.str (sgn (c / 132 % 26) m i))]) (fun Q q => ⟨_, rfl, _, _, rfl, rfl, _, rfl, q⟩)
        (fun hm D' k => ⟨_, rfl, _, rfl, _, rfl, _, _, rfl, rfl, ⟨by decide, by decide⟩, _, _, _, rfl, rfl, (by decide +kernel), hc2, _, _, rfl, rfl, (show 1 + 1 ≤ sizeLine by decide), k _ _ ⟨rfl, by unfold sgn; rw [if_pos (of_decide_eq_true hm)]; rfl⟩⟩) (fun hm => ⟨rfl, by unfold sgn; rw [if_neg (of_decide_eq_false hm)]; rfl⟩) ?_
      rintro _ _ ⟨rfl, rfl⟩
      have lz2 := sgn_len (c / 132 % 26) m i
      refine ⟨_, rfl, .inl ⟨rfl, _, SqL.of h2⟩, _, rfl, _, rfl, _, rfl, _, rfl, sb, _, rfl, _, _, rfl, rfl, short (by omega), _, rfl, _, rfl, _, rfl, _, rfl, sb, _, _, rfl, rfl, ?_, l, _, _, rfl, rfl, h2, small1000 (by rw [List.length_map, List.length_map, List.length_range]; omega), ?_⟩
      · refine short ?_
        have : (Txt.slice bse none (some (c / 11 % ((bse.length : Int) + 1))) ++ sgn (c / 132 % 26) m i).length = (Txt.slice bse none (some (c / 11 % ((bse.length : Int) + 1)))).length + (sgn (c / 132 % 26) m i).length := by
          show (_ ++ _ : Array Nat).size = _
          rw [Array.size_append]; rfl
        omega
      · refine ⟨_, _, rfl, same_upd s2 hl, ?_⟩
        rw [upd_same, List.range_succ, List.map_append, List.map_append]
        try rfl
    · rintro σ H2 ⟨x7, x8, rfl, s2, h2⟩
      refine ⟨_, rfl, q l _ H2 hl s2 h2 (by rw [List.length_map, List.length_range]) (names_nd _ _ _ _ _ (by omega)) fun z hz => ?_⟩
      obtain ⟨k, hk, rfl⟩ := List.mem_map.mp hz
      have hk := List.mem_range.mp hk
      have ob : okS bse := by rw [hbse]; exact okS_slice (by unfold okS; decide +kernel) _ _
      have e0 := Int.emod_nonneg (c / 11) (show ((bse.length : Int) + 1) ≠ 0 by omega)
      have e1 := Int.emod_lt_of_pos (c / 11) (show (0 : Int) < (bse.length : Int) + 1 by omega)
      exact ⟨nm_old2 (by rw [hbse]; exact M28.whom_ok _) e0 (by omega), (nmK_ok (by omega) (by omega) (okS_slice ob _ _) (okS_slice ob _ _) (by omega) m1).2.2⟩
def spOrd : Sp := fun vs H Q _ => ∃ c m : Int, vs = [.int c, .int m] ∧ 1 ≤ m ∧ m ≤ 40 ∧ ∀ (l : Addr) (ps : List Int) (H' : Hp), H l = none → Same H H' → H' l = some (.lst (ps.map V.int)) → ps.Perm (bsN m.toNat) → Q (.ref l) H'
theorem rngV_bs (n : Nat) : rngV n (fun p => p) = (bsN n).map V.int := by unfold rngV bsN; rw [List.map_map]; rfl
theorem scOrd : FnScope ["_law_seed", "_law_many", "_law_order_here", "_law_k", "_law_other", "_law_kept"] ["_law_seed", "_law_many"] (defScope sOrd) := ⟨rfl, rfl, rfl, by decide +kernel, rfl, by decide +kernel, by decide +kernel⟩
theorem okOrd (d : Df K mg "_law_order" sOrd ["_law_seed", "_law_many"]) (dM : Df K mg "_law_mix" sMix ["_law_seed", "_law_k"]) (T : BiR mg) : FnOk P w K mg base CX0 2 d.f d.fd ["_law_seed", "_law_many"] spOrd := by
  have GM : FnOk P w K mg base CX0 1 dM.f dM.fd ["_law_seed", "_law_k"] spMix := okMix dM
  refine d.F.ok scOrd (fun vs H Q E h => ?_) (fun cdv A outer s H vs Q E hr h => ?_)
  · obtain ⟨_, _, rfl, _⟩ := h
    rfl
  · obtain ⟨c, m, rfl, m0, m1, q⟩ := h
    refine ⟨_, (pss_cons (ps_set (i := 2) scOrd.nd rfl (by first | exact Or.inl rfl | exact Or.inr rfl) (pe_callTy (call_list_rng rfl) (by rfl) T.t_list boot_list (pa_cons (pe_range1 (by rfl) T.range (pa_cons (pv 1) pa_nil)) pa_nil)))
      (pss_cons (ps_for PassesOwn.never rfl (pi_rangeDn (by rfl) T.range (pa_cons (pe_op op_sub (pv 1) pe_int) (pa_cons pe_int (pa_cons (pe_un un_neg pe_int) pa_nil)))) (pg_name (i := 3) scOrd.nd rfl (by first | exact Or.inl rfl | exact Or.inr rfl)) (pss_cons (ps_set (i := 4) scOrd.nd rfl (by first | exact Or.inl rfl | exact Or.inr rfl) (pe_op op_mod (pe_call GM (hr.mono (by decide)) (by rfl) dM.m dM.F.kp dM.b .nil pass0 (pa_cons (pv 0) (pa_cons (pv 3) pa_nil))) (pe_op op_add (pv 3) pe_int)))
      (pss_cons (ps_set (i := 5) scOrd.nd rfl (by first | exact Or.inl rfl | exact Or.inr rfl) (pe_ix ix_list (pv 2) (pv 3) (fun _ _ => rfl)))
      (pss_cons (ps_asg (pe_ix ix_list (pv 2) (pv 4) (fun _ _ => rfl)) (pg_sub (pv 2) (pv 3) set_list))
      (pss_one (ps_asg (pv 5) (pg_sub (pv 2) (pv 4) set_list)))))))
      (pss_one (ps_ret (pv 2))))), ?_⟩
    refine ⟨_, rfl, m, rfl, fun r hr => ⟨r, m, rfl, upd_same, by omega, by omega, fun l hl => ?_⟩⟩
    have s1 := (same_new (o := .rng 0 m) hr).trans (same_new (o := .lst (rngV m.toNat fun p => p)) hl)
    have hl0 : H l = none := (same_new (o := .rng 0 m) hr).free hl
    refine ⟨_, rfl, _, _, rfl, rfl, _, rfl, m - 1, rfl, by omega, by omega, for_rangec (fun i σ H2 => ∃ (x3 x4 x5 : Option V) (ps : List Int), σ = [some (.int c), some (.int m), some (.ref l), x3, x4, x5] ∧ Same H H2 ∧ H2 l = some (.lst (ps.map V.int)) ∧ ps.Perm (bsN m.toNat))
      ⟨_, _, _, bsN m.toNat, rfl, s1, by rw [upd_same, rngV_bs], .refl _⟩ ?_ ?_⟩
    · rintro i σ H2 hi ⟨x3, x4, x5, ps, rfl, s2, h2, hp⟩
      generalize hk : m - 1 + (i : Int) * (-1) = k
      have k0 : 1 ≤ k := by omega
      have k1 : k < m := by omega
      refine ⟨_, rfl, _, rfl, c, k, rfl, by omega, by omega, fun z z0 => ⟨_, rfl, _, _, rfl, rfl, _, _, rfl, rfl, (by show (0 : Int) < k + 1; omega), ?_⟩⟩
      have o0 : 0 ≤ z % (k + 1) := Int.emod_nonneg _ (by omega)
      have o1 : z % (k + 1) < k + 1 := Int.emod_lt_of_pos _ (by omega)
      have lp : ps.length = m.toNat := by rw [hp.length_eq]; unfold bsN; rw [List.length_map, List.length_range]
      have lk : k.toNat < ps.length := by omega
      have lo : (z % (k + 1)).toNat < ps.length := by omega
      have at1 := int_at (zs := ps) (i := k) (by omega) (List.getElem?_eq_getElem lk)
      have at2 := int_at (zs := ps) (i := z % (k + 1)) o0 (List.getElem?_eq_getElem lo)
      have ix1 : ixN (ps.map V.int).length k = some k.toNat := by unfold ixN; rw [if_pos (by omega), if_pos (by rw [List.length_map]; omega)]
      have ix2 : ixN ((ps.map V.int).set k.toNat (V.int ps[(z % (k + 1)).toNat])).length (z % (k + 1)) = some (z % (k + 1)).toNat := by unfold ixN; rw [if_pos o0, if_pos (by rw [List.length_set, List.length_map]; omega)]
      refine ⟨_, rfl, _, rfl, l, _, _, _, rfl, rfl, SqL.of h2, at1, ?_⟩
      refine ⟨_, rfl, _, rfl, l, _, _, _, rfl, rfl, SqL.of h2, at2, _, rfl, _, rfl, l, _, k, _, rfl, rfl, h2, ix1, ?_⟩
      refine ⟨_, rfl, _, rfl, _, rfl, l, _, z % (k + 1), _, rfl, rfl, upd_same, ix2, ?_⟩
      refine ⟨_, _, _, (ps.set k.toNat ps[(z % (k + 1)).toNat]).set (z % (k + 1)).toNat ps[k.toNat], rfl, same_upd (same_upd s2 hl0) hl0, ?_, (List.set_set_perm lk lo).trans hp⟩
      rw [upd_same, List.map_set, List.map_set]
    · rintro σ H2 ⟨x3, x4, x5, ps, rfl, s2, h2, hp⟩
      exact ⟨_, rfl, q l ps H2 hl0 s2 h2 hp⟩
end
/-! ### texts of sides, made and looked at by the law -/
section
variable {P : Program} {w : World} {K : PySem.W.Frag} {mg : Str → Option Value} {base : Heap}
seal PA PE PS PSs PT PW
def spLn : Sp := fun vs H Q _ => ∃ bs : List Bool, vs = [.str (sS bs)] ∧ bs.length ≤ 1000 ∧ Q (.int (leanD bs)) H
theorem scLn : FnScope ["_law_sides", "_law_high", "_law_side"] ["_law_sides"] (defScope sLn) := ⟨rfl, rfl, rfl, by decide +kernel, rfl, by decide +kernel, by decide +kernel⟩
theorem okLn (d : Df K mg "_law_lean" sLn ["_law_sides"]) : FnOk P w K mg base CX0 1 d.f d.fd ["_law_sides"] spLn := by
  refine d.F.ok scLn (fun vs H Q E h => ?_) (fun cdv A outer s H vs Q E hr h => ?_)
  · obtain ⟨_, rfl, _⟩ := h
    rfl
  · obtain ⟨bs, rfl, lb, q⟩ := h
    refine ⟨_, (pss_cons (ps_set (i := 1) scLn.nd rfl (by first | exact Or.inl rfl | exact Or.inr rfl) pe_int)
      (pss_cons (ps_for PassesOwn.never rfl (pi_str (pv 0)) (pg_name (i := 2) scLn.nd rfl (by first | exact Or.inl rfl | exact Or.inr rfl)) (pss_one (ps_if (pt_cmpR op_eq (pv 2) pe_str (nomark _)) (pss_one (ps_set (i := 1) scLn.nd rfl (by first | exact Or.inl rfl | exact Or.inr rfl) (pe_op op_add (pv 1) pe_int))) (pss_one (ps_set (i := 1) scLn.nd rfl (by first | exact Or.inl rfl | exact Or.inr rfl) (pe_op op_sub (pv 1) pe_int))))))
      (pss_one (ps_ret (pv 1))))), ?_⟩
    refine ⟨_, rfl, _, rfl, for_str (fun i σ H2 => ∃ x2 : Option V, σ = [some (.str (sS bs)), some (.int (leanD (bs.take i))), x2] ∧ H2 = H) ⟨_, rfl, rfl⟩ ?_ ?_⟩
    · rintro i c σ H2 hc ⟨x2, rfl, rfl⟩
      obtain ⟨b, hb, rfl⟩ := sS_get hc
      have e : leanD (bs.take (i + 1)) = if b then leanD (bs.take i) + 1 else leanD (bs.take i) - 1 := by
        rw [List.take_add_one, hb, Option.toList_some, leanD_snoc]
      refine ⟨_, rfl, rfl, _, rfl, ?_⟩
      cases b with
      | true => exact iteD (by show V.str (sg true) = V.str (Str.ofString "w"); rw [sg_w]) ⟨_, rfl, _, _, rfl, rfl, ⟨some (.str (sg true)), by rw [e]; rfl, rfl⟩⟩
      | false => exact iteDn (fun z => absurd (V.str.inj z) (by decide +kernel)) ⟨_, rfl, _, _, rfl, rfl, ⟨some (.str (sg false)), by rw [e]; rfl, rfl⟩⟩
    · rintro σ H2 ⟨x2, rfl, rfl⟩
      rw [List.take_of_length_le (by rw [sS_size]; exact Nat.le_refl _)]
      exact ⟨_, rfl, q⟩
end
section
variable {P : Program} {w : World} {K : PySem.W.Frag} {mg : Str → Option Value} {base : Heap}
seal PA PE PS PSs PT PW
theorem atI_m1 {α : Type} (ys : List α) (x : α) : atI (ys ++ [x]) (-1) = some x := by
  unfold atI ixN
  rw [if_neg (by decide), if_pos (by rw [List.length_append, List.length_singleton]; omega)]
  show (ys ++ [x])[((-1 : Int) + ((ys ++ [x]).length : Nat)).toNat]? = some x
  rw [show ((-1 : Int) + ((ys ++ [x]).length : Nat)).toNat = ys.length by rw [List.length_append, List.length_singleton]; omega]
  simp
theorem atI_m2 {α : Type} (ys : List α) (y x : α) : atI (ys ++ [y, x]) (-2) = some y := by
  unfold atI ixN
  rw [if_neg (by decide), if_pos (by rw [List.length_append]; simp only [List.length_cons, List.length_nil]; omega)]
  show (ys ++ [y, x])[((-2 : Int) + ((ys ++ [y, x]).length : Nat)).toNat]? = some y
  rw [show ((-2 : Int) + ((ys ++ [y, x]).length : Nat)).toNat = ys.length by rw [List.length_append]; simp only [List.length_cons, List.length_nil]; omega]
  simp
theorem sS_m1 {bs r : List Bool} {a : Bool} (h : bs.reverse = a :: r) : atI (sS bs).cps.toList (-1) = some (cw a) := by
  have e : bs = r.reverse ++ [a] := by rw [← List.reverse_reverse bs, h, List.reverse_cons]
  have e2 : (sS bs).cps.toList = r.reverse.map cw ++ [cw a] := by rw [e]; simp [sS]
  rw [e2]; exact atI_m1 _ _
theorem sS_m2 {bs r : List Bool} {a b : Bool} (h : bs.reverse = a :: b :: r) : atI (sS bs).cps.toList (-2) = some (cw b) := by
  have e : bs = r.reverse ++ [b, a] := by rw [← List.reverse_reverse bs, h, List.reverse_cons, List.reverse_cons, List.append_assoc]; rfl
  have e2 : (sS bs).cps.toList = r.reverse.map cw ++ [cw b, cw a] := by rw [e]; simp [sS]
  rw [e2]; exact atI_m2 _ _ _
theorem at_dw (a : Bool) : atI (Str.ofString "dw").cps.toList (if decide (V.str (sg a) = V.str (Str.ofString "d")) = true then 1 else 0) = some (cw (!a)) := by
  cases a with
  | true => rw [if_neg (by rw [decide_eq_false (fun z => absurd (V.str.inj z) (by decide +kernel))]; exact Bool.false_ne_true)]; decide +kernel
  | false => rw [if_pos (decide_eq_true (by rw [sg_d]))]; decide +kernel
theorem at_dwb (p : Bool) : atI (Str.ofString "dw").cps.toList (if p = true then 1 else 0) = some (cw p) := by
  cases p <;> decide +kernel
def spBd : Sp := fun vs H Q _ => ∃ bs : List Bool, vs = [.str (sS bs)] ∧ bs.length ≤ 1000 ∧ Q (.str (oS (boundD bs))) H
theorem scBd : FnScope ["_law_sides"] ["_law_sides"] (defScope sBd) := ⟨rfl, rfl, rfl, by decide +kernel, rfl, by decide +kernel, by decide +kernel⟩
theorem okBd (d : Df K mg "_law_bound" sBd ["_law_sides"]) (dLn : Df K mg "_law_lean" sLn ["_law_sides"]) (T : BiR mg) : FnOk P w K mg base CX0 2 d.f d.fd ["_law_sides"] spBd := by
  have GLn : FnOk P w K mg base CX0 1 dLn.f dLn.fd ["_law_sides"] spLn := okLn dLn
  refine d.F.ok scBd (fun vs H Q E h => ?_) (fun cdv A outer s H vs Q E hr h => ?_)
  · obtain ⟨_, rfl, _⟩ := h
    rfl
  · obtain ⟨bs, rfl, lb, q⟩ := h
    have sl : (sS bs).length ≤ sizeLine := by rw [sS_len]; exact short lb
    refine ⟨_, (pss_cons (ps_if (pt_cmpR op_gt (pe_call GLn (hr.mono (by decide)) (by rfl) dLn.m dLn.F.kp dLn.b .nil pass0 (pa_cons (pv 0) pa_nil)) pe_int (nomark _)) (pss_one (ps_ret pe_str)) pss_nil)
      (pss_cons (ps_if (pt_cmpR op_lt (pe_call GLn (hr.mono (by decide)) (by rfl) dLn.m dLn.F.kp dLn.b .nil pass0 (pa_cons (pv 0) pa_nil)) (pe_un un_neg pe_int) (nomark _)) (pss_one (ps_ret pe_str)) pss_nil)
      (pss_cons (ps_if (PW.pt (pw_and (pt_cmpR op_gt (pe_callB call_len_str (by rfl) T.len PySem.boot_len (pa_cons (pv 0) pa_nil)) pe_int (nomark _)) (pw_and1 (pt_cmpR op_eq (pe_ix ix_str (pv 0) (pe_un un_neg pe_int) (fun _ _ => rfl)) (pe_ix ix_str (pv 0) (pe_un un_neg pe_int) (fun _ _ => rfl)) (nomark _))))) (pss_one (ps_ret (pe_ix ix_str pe_str (pe_callTy call_int1 (by rfl) T.t_int boot_int (pa_cons (pe_cmpR op_eq (pe_ix ix_str (pv 0) (pe_un un_neg pe_int) (fun _ _ => rfl)) pe_str (nomark _)) pa_nil)) (fun _ _ => rfl)))) pss_nil)
      (pss_one (ps_ret pe_str))))), ?_⟩
    refine ⟨_, rfl, bs, rfl, lb, _, _, rfl, rfl, _, rfl, ite2 (fun h1 => ?_) (fun h1 => ?_)⟩
    · have h1 := of_decide_eq_true h1
      have e : boundD bs = some false := by unfold boundD; rw [if_pos (by omega)]
      rw [e] at q
      show Q (.str (Str.ofString "d")) H
      rw [← sg_d]; exact q
    have h1 : ¬ leanD bs > 1 := fun z => h1 (decide_eq_true z)
    refine ⟨_, rfl, bs, rfl, lb, _, rfl, _, _, rfl, rfl, _, rfl, ite2 (fun h2 => ?_) (fun h2 => ?_)⟩
    · have h2 := of_decide_eq_true h2
      have e : boundD bs = some true := by unfold boundD; rw [if_neg h1, if_pos (by omega)]
      rw [e] at q
      show Q (.str (Str.ofString "w")) H
      rw [← sg_w]; exact q
    have h2 : ¬ leanD bs < -1 := fun z => h2 (decide_eq_true z)
    have few : ∀ (hl : bs.length ≤ 1), boundD bs = none := fun hl => by
      unfold boundD
      rw [if_neg h1, if_neg h2]
      match bs, hl with
      | [], _ => rfl
      | [x], _ => rfl
      | x :: y :: r, hl => simp at hl
    refine ⟨_, rfl, _, rfl, sl, _, _, rfl, rfl, _, rfl, ?_⟩
    match hrev : bs.reverse with
    | [] =>
      have hl : bs.length = 0 := by rw [← List.length_reverse, hrev]; rfl
      refine iteDn (by rw [sS_len]; omega) (iteF ?_)
      have := few (by omega)
      rw [this] at q; exact q
    | [x] =>
      have hl : bs.length = 1 := by rw [← List.length_reverse, hrev]; rfl
      refine iteDn (by rw [sS_len]; omega) (iteF ?_)
      have := few (by omega)
      rw [this] at q; exact q
    | a :: b :: r =>
      have hl : 2 ≤ bs.length := by rw [← List.length_reverse, hrev, List.length_cons, List.length_cons]; omega
      have e : boundD bs = if a = b then some (!a) else none := by unfold boundD; rw [if_neg h1, if_neg h2, hrev]
      refine iteD (by rw [sS_len]; omega) ?_
      refine ⟨_, rfl, _, rfl, _, _, _, rfl, rfl, sl, sS_m1 hrev, _, rfl, _, rfl, _, _, _, rfl, rfl, sl, sS_m2 hrev, rfl, _, rfl, ite2 (fun h3 => ?_) (fun h3 => ?_)⟩
      · have hab : a = b := sg_inj (V.str.inj (of_decide_eq_true h3))
        rw [e, if_pos hab] at q
        exact ⟨_, rfl, _, rfl, _, _, _, rfl, rfl, sl, sS_m1 hrev, rfl, .inr ⟨_, rfl, _, _, _, rfl, rfl, (by decide +kernel), at_dw a, q⟩⟩
      · have hab : ¬ a = b := fun z => h3 (decide_eq_true (by rw [z]))
        rw [e, if_neg hab] at q
        exact q
def spWs : Sp := fun vs H Q _ => ∃ bs : List Bool, vs = [.str (sS bs)] ∧ bs.length ≤ 1000 ∧ Q (.str (oS (wishD bs))) H
theorem scWs : FnScope ["_law_sides"] ["_law_sides"] (defScope sWs) := ⟨rfl, rfl, rfl, by decide +kernel, rfl, by decide +kernel, by decide +kernel⟩
theorem okWs (d : Df K mg "_law_wish" sWs ["_law_sides"]) (dBd : Df K mg "_law_bound" sBd ["_law_sides"]) (dLn : Df K mg "_law_lean" sLn ["_law_sides"]) (T : BiR mg) : FnOk P w K mg base CX0 3 d.f d.fd ["_law_sides"] spWs := by
  have GLn : FnOk P w K mg base CX0 1 dLn.f dLn.fd ["_law_sides"] spLn := okLn dLn
  have GBd : FnOk P w K mg base CX0 2 dBd.f dBd.fd ["_law_sides"] spBd := okBd dBd dLn T
  refine d.F.ok scWs (fun vs H Q E h => ?_) (fun cdv A outer s H vs Q E hr h => ?_)
  · obtain ⟨_, rfl, _⟩ := h
    rfl
  · obtain ⟨bs, rfl, lb, q⟩ := h
    have sl : (sS bs).length ≤ sizeLine := by rw [sS_len]; exact short lb
    refine ⟨_, (pss_cons (ps_if (pt_cmpR op_ne (pe_call GBd (hr.mono (by decide)) (by rfl) dBd.m dBd.F.kp dBd.b .nil pass0 (pa_cons (pv 0) pa_nil)) pe_str (nomark _)) (pss_one (ps_ret (pe_call GBd (hr.mono (by decide)) (by rfl) dBd.m dBd.F.kp dBd.b .nil pass0 (pa_cons (pv 0) pa_nil)))) pss_nil)
      (pss_cons (ps_if (pt_cmpR op_ne (pe_call GLn (hr.mono (by decide)) (by rfl) dLn.m dLn.F.kp dLn.b .nil pass0 (pa_cons (pv 0) pa_nil)) pe_int (nomark _)) (pss_one (ps_ret (pe_ix ix_str pe_str (pe_callTy call_int1 (by rfl) T.t_int boot_int (pa_cons (pe_cmpR op_lt (pe_call GLn (hr.mono (by decide)) (by rfl) dLn.m dLn.F.kp dLn.b .nil pass0 (pa_cons (pv 0) pa_nil)) pe_int (nomark _)) pa_nil)) (fun _ _ => rfl)))) pss_nil)
      (pss_cons (ps_if (pt_cmpR op_eq (pe_callB call_len_str (by rfl) T.len PySem.boot_len (pa_cons (pv 0) pa_nil)) pe_int (nomark _)) (pss_one (ps_ret pe_str)) pss_nil)
      (pss_one (ps_ret (pe_ix ix_str pe_str (pe_callTy call_int1 (by rfl) T.t_int boot_int (pa_cons (pe_cmpR op_eq (pe_ix ix_str (pv 0) (pe_un un_neg pe_int) (fun _ _ => rfl)) pe_str (nomark _)) pa_nil)) (fun _ _ => rfl))))))), ?_⟩
    refine ⟨_, rfl, bs, rfl, lb, rfl, _, rfl, ite2 (fun h1 => ?_) (fun h1 => ?_)⟩
    · refine ⟨_, rfl, bs, rfl, lb, ?_⟩
      cases e : boundD bs with
      | none => rw [e] at h1; exact absurd h1 (by simp [oS])
      | some b =>
        have e2 : wishD bs = some b := by unfold wishD; rw [e]
        rw [e2] at q; exact q
    have hb : boundD bs = none := by
      cases e : boundD bs with
      | none => rfl
      | some b =>
        rw [e] at h1
        have hne : ¬ V.str (oS (some b)) = V.str (Str.ofString "") := fun z => by
          have := oS_inj (a := some b) (b := none) (V.str.inj z)
          cases this
        exact absurd (by rw [decide_eq_false hne]; rfl) h1
    have ew : wishD bs = if leanD bs > 0 then some false else if leanD bs < 0 then some true else match bs.reverse with | a :: _ => some (!a) | [] => none := by unfold wishD; rw [hb]; try rfl
    refine ⟨_, rfl, bs, rfl, lb, rfl, _, rfl, ite2 (fun h2 => ?_) (fun h2 => ?_)⟩
    · have h2 : leanD bs ≠ 0 := fun z => by rw [z] at h2; simp at h2
      refine ⟨_, rfl, bs, rfl, lb, _, _, rfl, rfl, .inr ⟨_, rfl, _, _, _, rfl, rfl, (by decide +kernel), at_dwb _, ?_⟩⟩
      by_cases h3 : leanD bs < 0
      · rw [ew, if_neg (by omega), if_pos h3] at q
        rw [decide_eq_true h3]; exact q
      · rw [ew, if_pos (by omega)] at q
        rw [decide_eq_false h3]; exact q
    have h2 : leanD bs = 0 := Classical.byContradiction fun z => h2 (by simp [z])
    rw [ew, if_neg (by omega), if_neg (by omega)] at q
    refine ⟨_, rfl, _, rfl, sl, rfl, _, rfl, ?_⟩
    match hrev : bs.reverse with
    | [] =>
      have hl : bs.length = 0 := by rw [← List.length_reverse, hrev]; rfl
      rw [hrev] at q
      exact iteD (by rw [sS_len, hl]; rfl) q
    | a :: r =>
      have hl : bs.length ≠ 0 := by rw [← List.length_reverse, hrev, List.length_cons]; omega
      rw [hrev] at q
      refine iteDn (fun z => by have := V.int.inj z; rw [sS_len] at this; omega) ?_
      exact ⟨_, rfl, _, rfl, _, _, _, rfl, rfl, sl, sS_m1 hrev, rfl, .inr ⟨_, rfl, _, _, _, rfl, rfl, (by decide +kernel), at_dw a, q⟩⟩
end
/-! ### the program's lean, bound -/
section
variable {P : Program} {w : World} {K : PySem.W.Frag} {mg : Str → Option Value} {base : Heap}
seal PA PE PS PSs PT PW
abbrev sPl : Stmt := top 1
abbrev sPb : Stmt := top 2
theorem p_none (x : Option Bool) : decide (V.str (oS x) = V.str (Str.ofString "")) = decide (x = none) := decide_eq_decide.mpr ⟨fun h => oS_inj (b := none) (V.str.inj h), fun h => by rw [h]; rfl⟩
theorem scPl : FnScope ["sides"] ["sides"] (defScope sPl) := ⟨rfl, rfl, rfl, by decide +kernel, rfl, by decide +kernel, by decide +kernel⟩
theorem okPl (d : Df K mg "lean" sPl ["sides"]) : FnOk P w K mg base CX0 1 d.f d.fd ["sides"] spPl := by
  refine d.F.ok scPl (fun vs H Q E h => ?_) (fun cdv A outer s H vs Q E hr h => ?_)
  · obtain ⟨_, rfl, _⟩ := h
    rfl
  · obtain ⟨bs, rfl, lb, q⟩ := h
    refine ⟨_, (pss_one (ps_ret (pe_op op_sub (pe_bm PySem.F.plainAttrs_str PySem.F.slot_str_count PySem.F.type_str_count mt_count (pv 0) (pa_cons pe_str pa_nil)) (pe_bm PySem.F.plainAttrs_str PySem.F.slot_str_count PySem.F.type_str_count mt_count (pv 0) (pa_cons pe_str pa_nil))))), ?_⟩
    refine ⟨_, rfl, rfl, _, _, rfl, rfl, _, rfl, rfl, _, _, rfl, rfl, _, _, rfl, rfl, ?_⟩
    show Q (.int (Txt.count (sS bs) (Str.ofString "w") - Txt.count (sS bs) (Str.ofString "d"))) H
    rw [lean_count]
    exact q _ (Same.refl _)
theorem scPb : FnScope ["sides"] ["sides"] (defScope sPb) := ⟨rfl, rfl, rfl, by decide +kernel, rfl, by decide +kernel, by decide +kernel⟩
theorem okPb (d : Df K mg "bound" sPb ["sides"]) (dPl : Df K mg "lean" sPl ["sides"]) : FnOk P w K mg base CX0 2 d.f d.fd ["sides"] spPb := by
  have GPl : FnOk P w K mg base CX0 1 dPl.f dPl.fd ["sides"] spPl := okPl dPl
  refine d.F.ok scPb (fun vs H Q E h => ?_) (fun cdv A outer s H vs Q E hr h => ?_)
  · obtain ⟨_, rfl, _⟩ := h
    rfl
  · obtain ⟨bs, rfl, lb, q⟩ := h
    have sl : (sS bs).length ≤ sizeLine := by rw [sS_len]; exact short lb
    refine ⟨_, (pss_cons (ps_if (pt_cmpR op_ge (pe_call GPl (hr.mono (by decide)) (by rfl) dPl.m dPl.F.kp dPl.b .nil pass0 (pa_cons (pv 0) pa_nil)) pe_int (nomark _)) (pss_one (ps_ret pe_str)) pss_nil)
      (pss_cons (ps_if (pt_cmpR op_le (pe_call GPl (hr.mono (by decide)) (by rfl) dPl.m dPl.F.kp dPl.b .nil pass0 (pa_cons (pv 0) pa_nil)) (pe_un un_neg pe_int) (nomark _)) (pss_one (ps_ret pe_str)) pss_nil)
      (pss_cons (ps_if (pt_val (pe_bm PySem.F.plainAttrs_str PySem.F.slot_str_endswith PySem.F.type_str_endswith mt_endswith (pv 0) (pa_cons pe_str pa_nil))) (pss_one (ps_ret pe_str)) pss_nil)
      (pss_cons (ps_if (pt_val (pe_bm PySem.F.plainAttrs_str PySem.F.slot_str_endswith PySem.F.type_str_endswith mt_endswith (pv 0) (pa_cons pe_str pa_nil))) (pss_one (ps_ret pe_str)) pss_nil)
      (pss_one (ps_ret pe_str)))))), ?_⟩
    refine ⟨_, rfl, bs, rfl, lb, fun H1 s1 => ⟨_, _, rfl, rfl, _, rfl, ite2 (fun h1 => ?_) (fun h1 => ?_)⟩⟩
    · have h1 := of_decide_eq_true h1
      have e : boundD bs = some false := by unfold boundD; rw [if_pos (by omega)]
      have q := q H1 s1
      rw [e] at q
      show Q (.str (Str.ofString "d")) H1
      rw [← sg_d]; exact q
    have h1 : ¬ leanD bs > 1 := fun z => h1 (decide_eq_true (by omega))
    refine ⟨_, rfl, bs, rfl, lb, fun H2 s2 => ⟨_, rfl, _, _, rfl, rfl, _, rfl, ite2 (fun h2 => ?_) (fun h2 => ?_)⟩⟩
    · have h2 := of_decide_eq_true h2
      have e : boundD bs = some true := by unfold boundD; rw [if_neg h1, if_pos (by omega)]
      have q := q H2 (s1.trans s2)
      rw [e] at q
      show Q (.str (Str.ofString "w")) H2
      rw [← sg_w]; exact q
    have h2 : ¬ leanD bs < -1 := fun z => h2 (decide_eq_true (by omega))
    have q := q H2 (s1.trans s2)
    rw [bound_last h1 h2] at q
    have dec : ∀ (x : Bool) (z : Str), sS [x, x] = z → Txt.endswith (sS bs) z = decide (bs.drop (bs.length - 2) = [x, x]) := fun x z hz => by rw [← hz]; exact ends_sS bs [x, x]
    refine ⟨_, rfl, rfl, _, _, rfl, rfl, _, rfl, ?_⟩
    rw [dec true _ sS_ww]
    by_cases h3 : bs.drop (bs.length - 2) = [true, true]
    · rw [decide_eq_true h3]
      rw [if_pos h3] at q
      refine iteT ?_
      show Q (.str (Str.ofString "d")) H2
      rw [← sg_d]; exact q
    rw [decide_eq_false h3]
    rw [if_neg h3] at q
    refine iteF ⟨_, rfl, rfl, _, _, rfl, rfl, _, rfl, ?_⟩
    rw [dec false _ sS_dd]
    by_cases h4 : bs.drop (bs.length - 2) = [false, false]
    · rw [decide_eq_true h4]
      rw [if_pos h4] at q
      refine iteT ?_
      show Q (.str (Str.ofString "w")) H2
      rw [← sg_w]; exact q
    · rw [decide_eq_false h4]
      rw [if_neg h4] at q
      exact iteF q
end
/-! ### the program's wish -/
section
variable {P : Program} {w : World} {K : PySem.W.Frag} {mg : Str → Option Value} {base : Heap}
seal PA PE PS PSs PT PW
abbrev sPw : Stmt := top 3
theorem scPw : FnScope ["sides"] ["sides"] (defScope sPw) := ⟨rfl, rfl, rfl, by decide +kernel, rfl, by decide +kernel, by decide +kernel⟩
theorem okPw (d : Df K mg "wish" sPw ["sides"]) (dPb : Df K mg "bound" sPb ["sides"]) (dPl : Df K mg "lean" sPl ["sides"]) : FnOk P w K mg base CX0 3 d.f d.fd ["sides"] spPw := by
  have GPl : FnOk P w K mg base CX0 1 dPl.f dPl.fd ["sides"] spPl := okPl dPl
  have GPb : FnOk P w K mg base CX0 2 dPb.f dPb.fd ["sides"] spPb := okPb dPb dPl
  refine d.F.ok scPw (fun vs H Q E h => ?_) (fun cdv A outer s H vs Q E hr h => ?_)
  · obtain ⟨_, rfl, _⟩ := h
    rfl
  · obtain ⟨bs, rfl, lb, q⟩ := h
    refine ⟨_, (pss_cons (ps_if (pt_cmpR op_ne (pe_call GPb (hr.mono (by decide)) (by rfl) dPb.m dPb.F.kp dPb.b .nil pass0 (pa_cons (pv 0) pa_nil)) pe_str (nomark _)) (pss_one (ps_ret (pe_call GPb (hr.mono (by decide)) (by rfl) dPb.m dPb.F.kp dPb.b .nil pass0 (pa_cons (pv 0) pa_nil)))) pss_nil)
      (pss_cons (ps_if (pt_cmpR op_eq (pv 0) pe_str (nomark _)) (pss_one (ps_ret pe_str)) pss_nil)
      (pss_cons (ps_if (pt_cmpR op_ne (pe_call GPl (hr.mono (by decide)) (by rfl) dPl.m dPl.F.kp dPl.b .nil pass0 (pa_cons (pv 0) pa_nil)) pe_int (nomark _)) (pss_one (ps_ret (pe_ifExp (pt_cmpR op_gt (pe_call GPl (hr.mono (by decide)) (by rfl) dPl.m dPl.F.kp dPl.b .nil pass0 (pa_cons (pv 0) pa_nil)) pe_int (nomark _)) pe_str pe_str))) pss_nil)
      (pss_one (ps_ret (pe_ifExp (pt_val (pe_bm PySem.F.plainAttrs_str PySem.F.slot_str_endswith PySem.F.type_str_endswith mt_endswith (pv 0) (pa_cons pe_str pa_nil))) pe_str pe_str)))))), ?_⟩
    refine ⟨_, rfl, bs, rfl, lb, fun H1 s1 => ⟨rfl, _, rfl, ?_⟩⟩
    rw [p_none]
    cases hb : boundD bs with
    | some b =>
      have e2 : wishD bs = some b := wish_bound hb
      rw [e2] at q
      refine iteT ⟨_, rfl, bs, rfl, lb, fun H2 s2 => ?_⟩
      rw [hb]
      exact q _ (s1.trans s2)
    | none =>
      have ew : wishD bs = if leanD bs > 0 then some false else if leanD bs < 0 then some true else match bs.reverse with | a :: _ => some (!a) | [] => none := by unfold wishD; rw [hb]; try rfl
      refine iteF ⟨_, rfl, rfl, _, rfl, ite2 (fun h1 => ?_) (fun h1 => ?_)⟩
      · have e : bs = [] := sS_eq_nil.mp (V.str.inj (of_decide_eq_true h1))
        have q := q H1 s1
        rw [e] at q
        exact q
      have hne : bs ≠ [] := fun z => h1 (decide_eq_true (by rw [z, sS_nil]))
      refine ⟨_, rfl, bs, rfl, lb, fun H2 s2 => ⟨rfl, _, rfl, ite2 (fun h2 => ?_) (fun h2 => ?_)⟩⟩
      · have h2 : leanD bs ≠ 0 := fun z => by rw [z] at h2; simp at h2
        refine ⟨_, rfl, bs, rfl, lb, fun H3 s3 => ⟨_, _, rfl, rfl, _, rfl, ite2 (fun h3 => ?_) (fun h3 => ?_)⟩⟩
        · have q := q H3 ((s1.trans s2).trans s3)
          rw [ew, if_pos (of_decide_eq_true h3)] at q
          show Q (.str (Str.ofString "d")) H3
          rw [← sg_d]; exact q
        · have h3 : ¬ leanD bs > 0 := fun z => h3 (decide_eq_true z)
          have q := q H3 ((s1.trans s2).trans s3)
          rw [ew, if_neg h3, if_pos (by omega)] at q
          show Q (.str (Str.ofString "w")) H3
          rw [← sg_w]; exact q
      have h2 : leanD bs = 0 := Classical.byContradiction fun z => h2 (by simp [z])
      have q := q H2 (s1.trans s2)
      rw [ew, if_neg (by omega), if_neg (by omega)] at q
      refine ⟨_, rfl, rfl, _, _, rfl, rfl, _, rfl, ?_⟩
      rw [show Txt.endswith (sS bs) (Str.ofString "w") = decide (bs.drop (bs.length - 1) = [true]) by rw [← sg_w]; exact ends_sS bs [true]]
      match hrev : bs.reverse with
      | [] => exact absurd (by simpa using hrev) hne
      | a :: r =>
        rw [hrev] at q
        rw [drop1 hrev]
        cases a with
        | true =>
          refine iteD rfl ?_
          show Q (.str (Str.ofString "d")) H2
          rw [← sg_d]; exact q
        | false =>
          refine iteDn (by decide) ?_
          show Q (.str (Str.ofString "w")) H2
          rw [← sg_w]; exact q
end
section
theorem inV_strs (p : Str) : ∀ os : List Str, inV (.str p) (os.map V.str) = decide (p ∈ os)
  | [] => rfl
  | o :: r => by
    have ih := inV_strs p r
    unfold inV at ih ⊢
    rw [List.map_cons, List.any_cons, ih]
    show ((o == p) || _) = _
    by_cases e : o = p
    · subst e; simp
    · have e' : ¬ p = o := fun z => e z.symm
      simp [e, e']
theorem flat_strs : ∀ os : List Str, (os.map V.str).all flatV = true
  | [] => rfl
  | _ :: r => by rw [List.map_cons, List.all_cons, flat_strs r]; rfl
end
section
variable {P : Program} {w : World} {K : PySem.W.Frag} {mg : Str → Option Value} {base : Heap}
seal PA PE PS PSs PT PW
abbrev sMm : Stmt := top 4
theorem scMm : FnScope ["one", "other"] ["one", "other"] (defScope sMm) := ⟨rfl, rfl, rfl, by decide +kernel, rfl, by decide +kernel, by decide +kernel⟩
theorem okMm (d : Df K mg "may_meet" sMm ["one", "other"]) (dPb : Df K mg "bound" sPb ["sides"]) (dPl : Df K mg "lean" sPl ["sides"]) : FnOk P w K mg base CX0 3 d.f d.fd ["one", "other"] spMm := by
  have GPb : FnOk P w K mg base CX0 2 dPb.f dPb.fd ["sides"] spPb := okPb dPb dPl
  refine d.F.ok scMm (fun vs H Q E h => ?_) (fun cdv A outer s H vs Q E hr h => ?_)
  · obtain ⟨_, _, _, _, _, _, _, _, rfl, _⟩ := h
    rfl
  · obtain ⟨t1, t2, n1, n2, a, b, m1, m2, rfl, k1, k2, la, lb, l1, l2, q⟩ := h
    have la' : a.length ≤ 1000 := by omega
    have lb' : b.length ≤ 1000 := by omega
    obtain ⟨p1, ml1, tb1, r1, ys1, e1, f1, _⟩ := id k1
    obtain ⟨p2, ml2, tb2, r2, ys2, e2, f2, _⟩ := id k2
    refine ⟨_, (pss_cons (ps_if (PW.pt (pw_or (pt_cmpR op_in_seq (pe_ix ix_tup (pv 0) pe_int (fun _ _ => rfl)) (pe_ix ix_tup (pv 1) pe_int (fun _ _ => rfl)) (by rfl)) (pw_or1 (pt_cmpR op_in_seq (pe_ix ix_tup (pv 1) pe_int (fun _ _ => rfl)) (pe_ix ix_tup (pv 0) pe_int (fun _ _ => rfl)) (by rfl))))) (pss_one (ps_ret pe_bl)) pss_nil)
      (pss_one (ps_ret (pe_or (pe_cmpR op_eq (pe_call GPb (hr.mono (by decide)) (by rfl) dPb.m dPb.F.kp dPb.b .nil pass0 (pa_cons (pe_ix ix_tup (pv 0) pe_int (fun _ _ => rfl)) pa_nil)) pe_str (nomark _)) (pe_one (pe_cmpR op_ne (pe_call GPb (hr.mono (by decide)) (by rfl) dPb.m dPb.F.kp dPb.b .nil pass0 (pa_cons (pe_ix ix_tup (pv 0) pe_int (fun _ _ => rfl)) pa_nil)) (pe_call GPb (hr.mono (by decide)) (by rfl) dPb.m dPb.F.kp dPb.b .nil pass0 (pa_cons (pe_ix ix_tup (pv 1) pe_int (fun _ _ => rfl)) pa_nil)) (nomark _))))))), ?_⟩
    refine ⟨_, rfl, t1, _, _, _, rfl, rfl, SqT.of e1, rfl, _, rfl, t2, _, _, _, rfl, rfl, SqT.of e2, rfl, ml2, _, rfl, .inr (SqT.of f2), rfl, flat_strs _, _, rfl, ?_⟩
    rw [inV_strs]
    by_cases h1 : n1 ∈ m2
    · rw [decide_eq_true h1]
      have em : mmD n1 n2 a b m1 m2 = false := by unfold mmD; rw [decide_eq_true h1]; cases decide (n2 ∈ m1) <;> rfl
      rw [em] at q
      exact iteT (iteT (q _ (Same.refl _)))
    · rw [decide_eq_false h1]
      refine iteF ⟨_, rfl, t2, _, _, _, rfl, rfl, SqT.of e2, rfl, _, rfl, t1, _, _, _, rfl, rfl, SqT.of e1, rfl, ml1, _, rfl, .inr (SqT.of f1), rfl, flat_strs _, _, rfl, ?_⟩
      rw [inV_strs]
      by_cases h2 : n2 ∈ m1
      · rw [decide_eq_true h2]
        have em : mmD n1 n2 a b m1 m2 = false := by unfold mmD; rw [decide_eq_false h1, decide_eq_true h2]; rfl
        rw [em] at q
        exact iteT (q _ (Same.refl _))
      · rw [decide_eq_false h2]
        have em : mmD n1 n2 a b m1 m2 = freeB a b := by unfold mmD; rw [decide_eq_false h1, decide_eq_false h2]; rfl
        rw [em] at q
        refine iteF ?_
        refine ⟨_, rfl, t1, _, _, _, rfl, rfl, SqT.of e1, rfl, a, rfl, la', fun H1 s1 => ⟨rfl, _, rfl, ?_⟩⟩
        rw [p_none]
        by_cases ha : boundD a = none
        · rw [decide_eq_true ha]
          have ef : freeB a b = true := decide_eq_true (.inl ha)
          rw [ef] at q
          exact iteT (q _ s1)
        · rw [decide_eq_false ha]
          refine iteF ⟨_, rfl, t1, _, _, _, rfl, rfl, SqT.of (s1 _ _ e1), rfl, a, rfl, la', fun H2 s2 => ⟨_, rfl, t2, _, _, _, rfl, rfl, SqT.of (s2 _ _ (s1 _ _ e2)), rfl, b, rfl, lb', fun H3 s3 => ⟨rfl, ?_⟩⟩⟩
          have ef : freeB a b = !decide (V.str (oS (boundD a)) = V.str (oS (boundD b))) := by
            unfold freeB
            by_cases he : boundD a = boundD b
            · rw [decide_eq_false (fun z => z.elim ha fun y => y he), he, decide_eq_true rfl]; rfl
            · rw [decide_eq_true (.inr he), decide_eq_false (fun z => he (oS_inj (V.str.inj z)))]; rfl
          rw [ef] at q
          exact q _ ((s1.trans s2).trans s3)
end
section
variable {P : Program} {w : World} {K : PySem.W.Frag} {mg : Str → Option Value} {base : Heap}
seal PA PE PS PSs PT PW
abbrev sWa : Stmt := top 6
abbrev sWy : Stmt := top 7
abbrev sCw : Stmt := top 8
abbrev sWo : Stmt := top 9
theorem w_w (x y : Option Bool) : decide (V.str (oS x) = V.str (oS y)) = decide (x = y) := decide_eq_decide.mpr ⟨fun h => oS_inj (V.str.inj h), fun h => by rw [h]⟩
theorem ref_at {rs : List Addr} {i : Int} {r : Addr} (h0 : 0 ≤ i) (h : rs[i.toNat]? = some r) : atI (rs.map V.ref) i = some (.ref r) := by
  have := atI_nat (xs := rs.map V.ref) (j := i.toNat) (by rw [List.getElem?_map, h]; rfl)
  rwa [show ((i.toNat : Nat) : Int) = i by omega] at this
def spWa : Sp := fun vs H Q _ => ∃ (t1 t2 : Addr) (c d : Crd), vs = [.ref t1, .ref t2] ∧ CardX H t1 c.1 c.2 ∧ CardX H t2 d.1 d.2 ∧ c.2.bs.length ≤ 1000 ∧ d.2.bs.length ≤ 1000 ∧ ∀ H', Same H H' → Q (.bl (alikeD c.2.bs d.2.bs)) H'
theorem scWa : FnScope ["one", "other"] ["one", "other"] (defScope sWa) := ⟨rfl, rfl, rfl, by decide +kernel, rfl, by decide +kernel, by decide +kernel⟩
theorem okWa (d : Df K mg "wish_alike" sWa ["one", "other"]) (dPw : Df K mg "wish" sPw ["sides"]) (dPb : Df K mg "bound" sPb ["sides"]) (dPl : Df K mg "lean" sPl ["sides"]) : FnOk P w K mg base CX0 4 d.f d.fd ["one", "other"] spWa := by
  have GPw : FnOk P w K mg base CX0 3 dPw.f dPw.fd ["sides"] spPw := okPw dPw dPb dPl
  refine d.F.ok scWa (fun vs H Q E h => ?_) (fun cdv A outer s H vs Q E hr h => ?_)
  · obtain ⟨_, _, _, _, rfl, _⟩ := h
    rfl
  · obtain ⟨t1, t2, c, d', rfl, k1, k2, l1, l2, q⟩ := h
    obtain ⟨m1, b1, e1, _, _⟩ := id k1
    obtain ⟨m2, b2, e2, _, _⟩ := id k2
    refine ⟨_, (pss_one (ps_ret (pe_and (pe_cmpR op_ne (pe_call GPw (hr.mono (by decide)) (by rfl) dPw.m dPw.F.kp dPw.b .nil pass0 (pa_cons (pe_ix ix_tup (pv 0) pe_int (fun _ _ => rfl)) pa_nil)) pe_str (nomark _)) (pe_one (pe_cmpR op_eq (pe_call GPw (hr.mono (by decide)) (by rfl) dPw.m dPw.F.kp dPw.b .nil pass0 (pa_cons (pe_ix ix_tup (pv 0) pe_int (fun _ _ => rfl)) pa_nil)) (pe_call GPw (hr.mono (by decide)) (by rfl) dPw.m dPw.F.kp dPw.b .nil pass0 (pa_cons (pe_ix ix_tup (pv 1) pe_int (fun _ _ => rfl)) pa_nil)) (nomark _)))))), ?_⟩
    refine ⟨_, rfl, t1, _, _, _, rfl, rfl, SqT.of e1, rfl, c.2.bs, rfl, l1, fun H1 s1 => ⟨rfl, _, rfl, ?_⟩⟩
    rw [p_none]
    unfold alikeD at q
    by_cases h1 : wishD c.2.bs = none
    · rw [decide_eq_true h1] at q ⊢
      exact iteF (q _ s1)
    · rw [decide_eq_false h1] at q ⊢
      refine iteT ⟨_, rfl, t1, _, _, _, rfl, rfl, SqT.of (s1 _ _ e1), rfl, c.2.bs, rfl, l1, fun H2 s2 => ⟨_, rfl, t2, _, _, _, rfl, rfl, SqT.of (s2 _ _ (s1 _ _ e2)), rfl, d'.2.bs, rfl, l2, fun H3 s3 => ⟨rfl, ?_⟩⟩⟩
      rw [w_w]
      exact q _ ((s1.trans s2).trans s3)
def spWy : Sp := fun vs H Q _ => ∃ (a : Addr) (rs : List Addr) (cs : List Crd) (u v : Nat) (c d : Crd), vs = [.ref a, .int (u : Int), .int (v : Int)] ∧ H a = some (.lst (rs.map V.ref)) ∧ Paired (fun r c => CardX H r c.1 c.2) rs cs ∧ OkCs cs ∧ cs[u]? = some c ∧ cs[v]? = some d ∧ ∀ H', Same H H' → Q (.int (wry c d (u : Int) (v : Int))) H'
theorem scWy : FnScope ["cards", "u", "v", "one", "other", "alike"] ["cards", "u", "v"] (defScope sWy) := ⟨rfl, rfl, rfl, by decide +kernel, rfl, by decide +kernel, by decide +kernel⟩
theorem okWy (d : Df K mg "worry_at" sWy ["cards", "u", "v"]) (dWa : Df K mg "wish_alike" sWa ["one", "other"]) (dPw : Df K mg "wish" sPw ["sides"]) (dPb : Df K mg "bound" sPb ["sides"]) (dPl : Df K mg "lean" sPl ["sides"]) : FnOk P w K mg base CX0 5 d.f d.fd ["cards", "u", "v"] spWy := by
  have GWa : FnOk P w K mg base CX0 4 dWa.f dWa.fd ["one", "other"] spWa := okWa dWa dPw dPb dPl
  refine d.F.ok scWy (fun vs H Q E h => ?_) (fun cdv A outer s H vs Q E hr h => ?_)
  · obtain ⟨_, _, _, _, _, _, _, rfl, _⟩ := h
    rfl
  · obtain ⟨a, rs, cs, u, v, c, d', rfl, ha, prs, ok, hc, hd, q⟩ := h
    obtain ⟨t1, ht1, k1⟩ := pairedGet prs hc
    obtain ⟨t2, ht2, k2⟩ := pairedGet prs hd
    obtain ⟨b1, _, p1⟩ := ok.2 c (List.mem_of_getElem? hc)
    obtain ⟨b2, _, p2⟩ := ok.2 d' (List.mem_of_getElem? hd)
    obtain ⟨m1, tb1, e1, _, _⟩ := id k1
    obtain ⟨m2, tb2, e2, _, _⟩ := id k2
    have a1 : atI (rs.map V.ref) (u : Int) = some (.ref t1) := atI_nat (by rw [List.getElem?_map, ht1]; rfl)
    have a2 : atI (rs.map V.ref) (v : Int) = some (.ref t2) := atI_nat (by rw [List.getElem?_map, ht2]; rfl)
    have ds := dif_small p1 p2
    refine ⟨_, (pss_cons (ps_set (i := 3) scWy.nd rfl (by first | exact Or.inl rfl | exact Or.inr rfl) (pe_ix ix_list (pv 0) (pv 1) (fun _ _ => rfl)))
      (pss_cons (ps_set (i := 4) scWy.nd rfl (by first | exact Or.inl rfl | exact Or.inr rfl) (pe_ix ix_list (pv 0) (pv 2) (fun _ _ => rfl)))
      (pss_cons (ps_set (i := 5) scWy.nd rfl (by first | exact Or.inl rfl | exact Or.inr rfl) (pe_ifExp (pt_val (pe_call GWa (hr.mono (by decide)) (by rfl) dWa.m dWa.F.kp dWa.b .nil pass0 (pa_cons (pv 3) (pa_cons (pv 4) pa_nil)))) pe_int pe_int))
      (pss_one (ps_ret (pe_op op_sub (pe_op op_sub (pe_op op_add (pe_op op_add (pe_op op_mulB (pe_op op_powB (pe_op op_sub (pe_ix ix_tup (pv 3) pe_int (fun _ _ => rfl)) (pe_ix ix_tup (pv 4) pe_int (fun _ _ => rfl))) pe_int) (pe_op op_pow pe_int pe_int)) (pe_op op_mul (pv 5) (pe_op op_pow pe_int pe_int))) (pv 2)) (pv 1)) pe_int)))))), ?_⟩
    refine ⟨_, rfl, _, rfl, a, _, _, _, rfl, rfl, SqL.of ha, a1, _, rfl, _, rfl, a, _, _, _, rfl, rfl, SqL.of ha, a2, ?_⟩
    refine ⟨_, rfl, _, rfl, t1, t2, c, d', rfl, k1, k2, by omega, by omega, fun H1 s1 => ⟨_, rfl, ?_⟩⟩
    have fin : ∀ z : Int, (z = if alikeD c.2.bs d'.2.bs = true then 1 else 0) → Q (.int ((c.2.pts - d'.2.pts) ^ (2 : Int).toNat * 10 ^ (12 : Int).toNat + z * 10 ^ (6 : Int).toNat + (v : Int) - (u : Int) - 1)) H1 := fun z hz => by
      have := q H1 s1
      unfold wry sqW at this
      rw [sq2]
      have ez : z * 10 ^ (6 : Int).toNat = if alikeD c.2.bs d'.2.bs = true then T6 else 0 := by
        rw [hz]
        split
        · rw [Int.one_mul]
        · rw [Int.zero_mul]
      rw [ez]; exact this
    cases hal : alikeD c.2.bs d'.2.bs with
    | true => exact iteT ⟨_, rfl, t1, _, _, _, rfl, rfl, SqT.of (s1 _ _ e1), rfl, _, rfl, t2, _, _, _, rfl, rfl, SqT.of (s1 _ _ e2), rfl, _, _, rfl, rfl, _, _, rfl, rfl, ⟨rfl, big_small ds⟩, _, _, rfl, rfl, ⟨by decide, by decide, by decide⟩, _, _, rfl, rfl, ⟨by rw [sq2]; exact sq_small ds, by decide +kernel⟩, _, rfl, _, _, rfl, rfl, ⟨by decide, by decide, by decide⟩, _, _, rfl, rfl, .inl ⟨by decide, by decide⟩, _, _, rfl, rfl, _, rfl, _, _, rfl, rfl, _, rfl, _, _, rfl, rfl, _, _, rfl, rfl, fin 1 (by rw [hal]; rfl)⟩
    | false => exact iteF ⟨_, rfl, t1, _, _, _, rfl, rfl, SqT.of (s1 _ _ e1), rfl, _, rfl, t2, _, _, _, rfl, rfl, SqT.of (s1 _ _ e2), rfl, _, _, rfl, rfl, _, _, rfl, rfl, ⟨rfl, big_small ds⟩, _, _, rfl, rfl, ⟨by decide, by decide, by decide⟩, _, _, rfl, rfl, ⟨by rw [sq2]; exact sq_small ds, by decide +kernel⟩, _, rfl, _, _, rfl, rfl, ⟨by decide, by decide, by decide⟩, _, _, rfl, rfl, .inl ⟨by decide, by decide⟩, _, _, rfl, rfl, _, rfl, _, _, rfl, rfl, _, rfl, _, _, rfl, rfl, _, _, rfl, rfl, fin 0 (by rw [hal]; rfl)⟩
def spCw : Sp := fun vs H Q _ => ∃ (a : Addr) (rs : List Addr) (cs : List Crd) (u : Nat) (c : Crd), vs = [.ref a, .int (u : Int)] ∧ H a = some (.lst (rs.map V.ref)) ∧ Paired (fun r c => CardX H r c.1 c.2) rs cs ∧ OkCs cs ∧ cs[u]? = some c ∧ ∀ H', Same H H' → Q (.int (chrW cs c u)) H'
theorem scCw : FnScope ["cards", "u", "least"] ["cards", "u"] (defScope sCw) := ⟨rfl, rfl, rfl, by decide +kernel, rfl, by decide +kernel, by decide +kernel⟩
theorem okCw (d : Df K mg "chair_worry" sCw ["cards", "u"]) (T : BiR mg) : FnOk P w K mg base CX0 1 d.f d.fd ["cards", "u"] spCw := by
  refine d.F.ok scCw (fun vs H Q E h => ?_) (fun cdv A outer s H vs Q E hr h => ?_)
  · obtain ⟨_, _, _, _, _, rfl, _⟩ := h
    rfl
  · obtain ⟨a, rs, cs, u, c, rfl, ha, prs, ok, hc, q⟩ := h
    obtain ⟨t1, ht1, k1⟩ := pairedGet prs hc
    obtain ⟨b1, _, p1⟩ := ok.2 c (List.mem_of_getElem? hc)
    obtain ⟨m1, tb1, e1, _, _⟩ := id k1
    have a1 : atI (rs.map V.ref) (u : Int) = some (.ref t1) := atI_nat (by rw [List.getElem?_map, ht1]; rfl)
    have lrs : rs.length = cs.length := Paired.length prs
    have l60 := ok.1
    have ul : u < cs.length := (List.getElem?_eq_some_iff.mp hc).1
    have cne : cs ≠ [] := fun e => by rw [e] at ul; cases ul
    have ds := dif_small p1 (least_small ok cne)
    refine ⟨_, (pss_cons (ps_set (i := 2) scCw.nd rfl (by first | exact Or.inl rfl | exact Or.inr rfl) (pe_callB (call_minI rfl) (by rfl) T.min boot_min (pa_cons (pe_comp (compOk (fr := [])) rfl (pi_list (pv 0)) (fun _ _ _ => pts_nil) (fun _ _ _ => (pe_ix (ix_tupK (K := K)) (pv 0) pe_int (fun _ _ => rfl)))) pa_nil)))
      (pss_one (ps_ret (pe_op op_sub (pe_op op_sub (pe_op op_add (pe_op op_mulB (pe_op op_powB (pe_op op_sub (pe_ix ix_tup (pe_ix ix_list (pv 0) (pv 1) (fun _ _ => rfl)) pe_int (fun _ _ => rfl)) (pv 2)) pe_int) (pe_op op_pow pe_int pe_int)) (pe_callB call_len_seq (by rfl) T.len PySem.boot_len (pa_cons (pv 0) pa_nil))) (pv 1)) pe_int)))), ?_⟩
    refine ⟨_, rfl, a, rfl, ⟨_, SqL.of ha⟩, fun D hD => comp_list (xs := rs.map V.ref) (fun i ac H2 => H2 D = some (.lst ac) ∧ Same H H2 ∧ ac = ((cs.take i).map fun c => c.2.pts).map V.int) ⟨upd_same, same_new hD, rfl⟩ ?_ ?_ ?_⟩
    · rintro i ac H2 hi ⟨h2, s2, rfl⟩
      refine ⟨h2, small1000 ?_, SqL.of (s2 _ _ ha)⟩
      rw [List.length_map, List.length_map, List.length_take]; omega
    · rintro i x ac H2 N hx hN ⟨h2, s2, rfl⟩
      rw [List.getElem?_map] at hx
      obtain ⟨r, hr', rfl⟩ := Option.map_eq_some_iff.mp hx
      obtain ⟨ci, hci, m, tb, e, _, _⟩ := pairedGetL prs hr'
      refine ⟨_, rfl, r, _, _, _, rfl, rfl, SqT.of (s2 _ _ e), rfl, h2, hN _ _ ⟨upd_same, same_upd s2 hD, ?_⟩⟩
      rw [List.take_add_one, hci, Option.toList_some, List.map_append, List.map_append]; rfl
    rintro ac H2 ⟨h2, s2, rfl⟩
    rw [List.length_map, lrs, List.take_length] at h2
    refine ⟨D, _, rfl, SqL.of h2, by rw [List.length_map]; omega, fun M hM hle => ?_⟩
    obtain rfl := least_eq hM hle
    refine ⟨_, rfl, _, rfl, a, _, _, _, rfl, rfl, SqL.of (s2 _ _ ha), a1, t1, _, _, _, rfl, rfl, SqT.of (s2 _ _ e1), rfl, _, rfl, _, _, rfl, rfl, _, _, rfl, rfl, ⟨rfl, big_small ds⟩, _, _, rfl, rfl, ⟨by decide, by decide, by decide⟩, _, _, rfl, rfl, ⟨by rw [sq2]; exact sq_small ds, by decide +kernel⟩, _, rfl, a, _, rfl, .inl (SqL.of (s2 _ _ ha)), _, _, rfl, rfl, _, rfl, _, _, rfl, rfl, _, _, rfl, rfl, ?_⟩
    have := q H2 s2
    unfold chrW sqW at this
    rw [sq2, List.length_map, lrs]
    exact this
def spWo : Sp := fun vs H Q _ => ∃ (a : Addr) (rs : List Addr) (cs : List Crd), vs = [.ref a] ∧ H a = some (.lst (rs.map V.ref)) ∧ Paired (fun r c => CardX H r c.1 c.2) rs cs ∧ OkCs cs ∧ ∀ (l : Addr) (H' : Hp), Same H H' → H l = none → TL H' l (worD cs cs.length) → Q (.ref l) H'
theorem scWo : FnScope ["cards", "told", "count", "u", "v"] ["cards"] (defScope sWo) := ⟨rfl, rfl, rfl, by decide +kernel, rfl, by decide +kernel, by decide +kernel⟩
theorem okWo (d : Df K mg "worries" sWo ["cards"]) (dWy : Df K mg "worry_at" sWy ["cards", "u", "v"]) (dCw : Df K mg "chair_worry" sCw ["cards", "u"]) (dMm : Df K mg "may_meet" sMm ["one", "other"]) (dWa : Df K mg "wish_alike" sWa ["one", "other"]) (dPw : Df K mg "wish" sPw ["sides"]) (dPb : Df K mg "bound" sPb ["sides"]) (dPl : Df K mg "lean" sPl ["sides"]) (T : BiR mg) : FnOk P w K mg base CX0 6 d.f d.fd ["cards"] spWo := by
  have GMm : FnOk P w K mg base CX0 3 dMm.f dMm.fd ["one", "other"] spMm := okMm dMm dPb dPl
  have GWy : FnOk P w K mg base CX0 5 dWy.f dWy.fd ["cards", "u", "v"] spWy := okWy dWy dWa dPw dPb dPl
  have GCw : FnOk P w K mg base CX0 1 dCw.f dCw.fd ["cards", "u"] spCw := okCw dCw T
  refine d.F.ok scWo (fun vs H Q E h => ?_) (fun cdv A outer s H vs Q E hr h => ?_)
  · obtain ⟨_, _, _, rfl, _⟩ := h
    rfl
  · obtain ⟨a, rs, cs, rfl, ha, prs, ok, q⟩ := h
    have lrs : rs.length = cs.length := Paired.length prs
    have l60 := ok.1
    have wl : ∀ k, k ≤ cs.length → (worD cs k).length ≤ 3600 := fun k hk => Nat.le_trans (worD_len cs k hk) (Nat.le_trans (Nat.mul_le_mul (Nat.le_trans hk l60) l60) (by decide))
    refine ⟨_, (pss_cons (ps_set (i := 1) scWo.nd rfl (by first | exact Or.inl rfl | exact Or.inr rfl) (pe_lst pa_nil))
      (pss_cons (ps_set (i := 2) scWo.nd rfl (by first | exact Or.inl rfl | exact Or.inr rfl) (pe_callB call_len_seq (by rfl) T.len PySem.boot_len (pa_cons (pv 0) pa_nil)))
      (pss_cons (ps_for PassesOwn.never rfl (pi_range1 (by rfl) T.range (pa_cons (pv 2) pa_nil)) (pg_name (i := 3) scWo.nd rfl (by first | exact Or.inl rfl | exact Or.inr rfl)) (pss_cons (ps_for PassesOwn.never rfl (pi_range2 (by rfl) T.range (pa_cons (pe_op op_add (pv 3) pe_int) (pa_cons (pv 2) pa_nil))) (pg_name (i := 4) scWo.nd rfl (by first | exact Or.inl rfl | exact Or.inr rfl)) (pss_one (ps_if (pt_val (pe_call GMm (hr.mono (by decide)) (by rfl) dMm.m dMm.F.kp dMm.b .nil pass0 (pa_cons (pe_ix ix_list (pv 0) (pv 3) (fun _ _ => rfl)) (pa_cons (pe_ix ix_list (pv 0) (pv 4) (fun _ _ => rfl)) pa_nil)))) (pss_one (ps_expr (pe_bm PySem.F.plainAttrs_list PySem.F.slot_list_append PySem.F.type_list_append mt_append (pv 1) (pa_cons (pe_tup (pa_cons (pv 3) (pa_cons (pv 4) (pa_cons (pe_call GWy (hr.mono (by decide)) (by rfl) dWy.m dWy.F.kp dWy.b .nil pass0 (pa_cons (pv 0) (pa_cons (pv 3) (pa_cons (pv 4) pa_nil)))) pa_nil)))) pa_nil)))) pss_nil)))
      (pss_one (ps_if (PW.pt (pw_and (pt_cmpR op_eq (pe_op op_mod (pv 2) pe_int) pe_int (nomark _)) (pw_and1 (pt_not (pt_val (pe_ix ix_tup (pe_ix ix_list (pv 0) (pv 3) (fun _ _ => rfl)) pe_int (fun _ _ => rfl))))))) (pss_one (ps_expr (pe_bm PySem.F.plainAttrs_list PySem.F.slot_list_append PySem.F.type_list_append mt_append (pv 1) (pa_cons (pe_tup (pa_cons (pv 3) (pa_cons (pv 2) (pa_cons (pe_call GCw (hr.mono (by decide)) (by rfl) dCw.m dCw.F.kp dCw.b .nil pass0 (pa_cons (pv 0) (pa_cons (pv 3) pa_nil))) pa_nil)))) pa_nil)))) pss_nil))))
      (pss_one (ps_ret (pv 1)))))), ?_⟩
    refine ⟨Nat.zero_le _, fun l hl => ?_⟩
    have s1 := same_new (o := .lst []) hl
    refine ⟨_, rfl, a, _, rfl, .inl (SqL.of (s1 _ _ ha)), ?_⟩
    have ln : (((rs.map V.ref).length : Nat) : Int) = (cs.length : Int) := by rw [List.length_map, lrs]
    rw [ln]
    refine ⟨_, rfl, _, rfl, by omega, by omega, for_range (fun i σ H2 => ∃ (x3 x4 : Option V), σ = [some (.ref a), some (.ref l), some (.int (cs.length : Int)), x3, x4] ∧ Same H H2 ∧ TL H2 l (worD cs i))
      ⟨_, _, rfl, s1, [], upd_same, .nil⟩ ?_ ?_⟩
    · rintro u σ H2 hu ⟨x3, x4, rfl, s2, tl⟩
      have ul : u < cs.length := by omega
      rw [Int.zero_add]
      have hc : cs[u]? = some cs[u] := List.getElem?_eq_getElem ul
      generalize cs[u] = c at hc
      obtain ⟨t1, ht1, k1⟩ := pairedGet prs hc
      have a1 : atI (rs.map V.ref) (u : Int) = some (.ref t1) := atI_nat (by rw [List.getElem?_map, ht1]; rfl)
      obtain ⟨b1, c1, p1⟩ := ok.2 c (List.mem_of_getElem? hc)
      have wu := wl u (by omega)
      refine ⟨_, rfl, _, _, rfl, rfl, _, rfl, _, _, rfl, ⟨by omega, by omega, by omega, by omega⟩, for_range (fun j σ H3 => ∃ (x4 : Option V), σ = [some (.ref a), some (.ref l), some (.int (cs.length : Int)), some (.int (u : Int)), x4] ∧ Same H H3 ∧ TL H3 l (worD cs u ++ rowV cs u j))
        ⟨_, rfl, s2, by rw [show rowV cs u 0 = [] from rfl, List.append_nil]; exact tl⟩ ?_ ?_⟩
      · rintro j σ H3 hj ⟨x4, rfl, s3, tl3⟩
        have jl : u + 1 + j < cs.length := by omega
        have hd : cs[u + 1 + j]? = some cs[u + 1 + j] := List.getElem?_eq_getElem jl
        generalize cs[u + 1 + j] = e at hd
        obtain ⟨t2, ht2, k2⟩ := pairedGet prs hd
        have ev : (u : Int) + 1 + (j : Int) = ((u + 1 + j : Nat) : Int) := by omega
        rw [ev]
        have a2 : atI (rs.map V.ref) ((u + 1 + j : Nat) : Int) = some (.ref t2) := atI_nat (by rw [List.getElem?_map, ht2]; rfl)
        obtain ⟨b2, c2, p2⟩ := ok.2 e (List.mem_of_getElem? hd)
        have hs := rowV_succ hc hd
        refine ⟨_, rfl, _, rfl, a, _, _, _, rfl, rfl, SqL.of (s3 _ _ ha), a1, _, rfl, _, rfl, a, _, _, _, rfl, rfl, SqL.of (s3 _ _ ha), a2, t1, t2, c.1, e.1, c.2.bs, e.2.bs, c.2.ms, e.2.ms, rfl, CardX.cardM (c := c) (k1.same s3), CardX.cardM (c := e) (k2.same s3), b1, b2, c1, c2, fun H4 s4 => ⟨_, rfl, ?_⟩⟩
        have tl4 := tl3.same s4
        have S4 := s3.trans s4
        refine ite2 (fun hm => ?_) (fun hm => ?_)
        · have hm : cM c e = true := hm
          rw [if_pos hm] at hs
          obtain ⟨es, hes, pes⟩ := tl4
          refine ⟨_, rfl, .inl ⟨rfl, _, SqL.of hes⟩, _, rfl, _, rfl, _, rfl, _, rfl, _, rfl, a, rs, cs, u, u + 1 + j, c, e, rfl, S4 _ _ ha, Paired.mapP prs fun _ _ z => z.same S4, ok, hc, hd, fun H5 s5 => ⟨(by show 3 ≤ sizeLine; decide), fun t ht => ?_⟩⟩
          have s6 := same_new (o := t3 ((u : Int), ((u + 1 + j : Nat) : Int), wry c e (u : Int) ((u + 1 + j : Nat) : Int))) ht
          have hes6 := s6 _ _ (s5 _ _ hes)
          have rl := rowV_len cs u j
          refine ⟨l, _, _, rfl, rfl, hes6, small5 (by rw [List.length_map, Trs.length pes, List.length_append]; omega), ?_⟩
          refine ⟨_, rfl, same_upd ((S4.trans s5).trans s6) hl, ?_⟩
          rw [hs, ← List.append_assoc]
          exact tl_snoc hes6 ((pes.same s5).same s6) upd_same
        · have hm : ¬ cM c e = true := hm
          rw [if_neg hm, List.append_nil] at hs
          exact ⟨_, rfl, S4, by rw [hs]; exact tl4⟩
      rintro σ H3 ⟨x4, rfl, s3, tl3⟩
      rw [show ((cs.length : Int) - ((u : Int) + 1)).toNat = cs.length - (u + 1) by omega] at tl3
      have hr : worD cs (u + 1) = worD cs u ++ rowV cs u (cs.length - (u + 1)) ++ if cs.length % 2 = 1 ∧ c.2.rs = false then [((u : Int), (cs.length : Int), chrW cs c u)] else [] := by
        rw [worD_succ, List.append_assoc]; unfold rowU; rw [hc]
      obtain ⟨m1, tb1, e1, _, _⟩ := id k1
      refine ⟨_, rfl, _, _, rfl, rfl, (by show (0 : Int) < 2; decide), rfl, _, rfl, ?_⟩
      rw [int_dec]
      by_cases hod : (cs.length : Int) % 2 = 1
      · rw [decide_eq_true hod]
        refine iteT ⟨_, rfl, _, rfl, a, _, _, _, rfl, rfl, SqL.of (s3 _ _ ha), a1, t1, _, _, _, rfl, rfl, SqT.of (s3 _ _ e1), rfl, _, rfl, ?_⟩
        cases hrs : c.2.rs with
        | true =>
          rw [if_neg (fun z => by rw [hrs] at z; cases z.2), List.append_nil] at hr
          refine iteF ⟨_, _, rfl, s3, by rw [hr]; exact tl3⟩
        | false =>
          rw [if_pos ⟨by omega, hrs⟩] at hr
          obtain ⟨es, hes, pes⟩ := tl3
          refine iteT ⟨_, rfl, .inl ⟨rfl, _, SqL.of hes⟩, _, rfl, _, rfl, _, rfl, _, rfl, a, rs, cs, u, c, rfl, s3 _ _ ha, Paired.mapP prs fun _ _ z => z.same s3, ok, hc, fun H5 s5 => ⟨(by show 3 ≤ sizeLine; decide), fun t ht => ?_⟩⟩
          have s6 := same_new (o := t3 ((u : Int), (cs.length : Int), chrW cs c u)) ht
          have hes6 := s6 _ _ (s5 _ _ hes)
          have rl := rowV_len cs u (cs.length - (u + 1))
          refine ⟨l, _, _, rfl, rfl, hes6, small5 (by rw [List.length_map, Trs.length pes, List.length_append]; omega), ?_⟩
          refine ⟨_, _, rfl, same_upd ((s3.trans s5).trans s6) hl, ?_⟩
          rw [hr]
          exact tl_snoc hes6 ((pes.same s5).same s6) upd_same
      · rw [decide_eq_false hod]
        rw [if_neg (fun z => hod (by omega)), List.append_nil] at hr
        exact iteF (iteF ⟨_, _, rfl, s3, by rw [hr]; exact tl3⟩)
    · rintro σ H2 ⟨x3, x4, rfl, s2, tl⟩
      rw [show (cs.length : Int).toNat = cs.length by omega] at tl
      exact ⟨_, rfl, q l H2 s2 hl tl⟩
end
section
variable {P : Program} {w : World} {K : PySem.W.Frag} {mg : Str → Option Value} {base : Heap}
seal PA PE PS PSs PT PW
theorem okS_old : okS M28.oldS := by unfold okS; decide +kernel
abbrev someL : List V := [.str (Str.ofString ""), .str (Str.ofString "w"), .str (Str.ofString "d"), .str (Str.ofString "wd"), .str (Str.ofString "dw"), .str (Str.ofString "wdw"), .str (Str.ofString "dwd"), .str (Str.ofString "wwdd"), .str (Str.ofString "ddww"), .str (Str.ofString "wddw"), .str (Str.ofString "dwwd")]
theorem some_at {i : Int} (h0 : 0 ≤ i) (h1 : i < 9) : ∃ (k : Int) (bs : List Bool), atI [V.int 0, V.int 1, V.int 2, V.int 3, V.int 4, V.int 5, V.int 6, V.int 9, V.int 10] i = some (.int k) ∧ atI someL k = some (.str (sS bs)) ∧ boundD bs = none ∧ bs.length ≤ 4 := by
  have key : ∀ (k : Nat) (bs : List Bool) (x : Str), someL[k]? = some (.str x) → x = sS bs → atI someL (k : Int) = some (.str (sS bs)) := fun k bs x e e2 => by rw [← e2]; exact atI_nat e
  have ki : ∀ (j : Nat) (k : Int), [V.int 0, V.int 1, V.int 2, V.int 3, V.int 4, V.int 5, V.int 6, V.int 9, V.int 10][j]? = some (.int k) → atI [V.int 0, V.int 1, V.int 2, V.int 3, V.int 4, V.int 5, V.int 6, V.int 9, V.int 10] (j : Int) = some (.int k) := fun j k e => atI_nat e
  rcases (show i = 0 ∨ i = 1 ∨ i = 2 ∨ i = 3 ∨ i = 4 ∨ i = 5 ∨ i = 6 ∨ i = 7 ∨ i = 8 by omega) with rfl | rfl | rfl | rfl | rfl | rfl | rfl | rfl | rfl
  · exact ⟨0, [], ki 0 0 rfl, key 0 [] _ rfl (by decide +kernel), by decide +kernel, by decide⟩
  · exact ⟨1, [true], ki 1 1 rfl, key 1 [true] _ rfl (by decide +kernel), by decide +kernel, by decide⟩
  · exact ⟨2, [false], ki 2 2 rfl, key 2 [false] _ rfl (by decide +kernel), by decide +kernel, by decide⟩
  · exact ⟨3, [true, false], ki 3 3 rfl, key 3 [true, false] _ rfl (by decide +kernel), by decide +kernel, by decide⟩
  · exact ⟨4, [false, true], ki 4 4 rfl, key 4 [false, true] _ rfl (by decide +kernel), by decide +kernel, by decide⟩
  · exact ⟨5, [true, false, true], ki 5 5 rfl, key 5 [true, false, true] _ rfl (by decide +kernel), by decide +kernel, by decide⟩
  · exact ⟨6, [false, true, false], ki 6 6 rfl, key 6 [false, true, false] _ rfl (by decide +kernel), by decide +kernel, by decide⟩
  · exact ⟨9, [true, false, false, true], ki 7 9 rfl, key 9 [true, false, false, true] _ rfl (by decide +kernel), by decide +kernel, by decide⟩
  · exact ⟨10, [false, true, true, false], ki 8 10 rfl, key 10 [false, true, true, false] _ rfl (by decide +kernel), by decide +kernel, by decide⟩
theorem p9 {x : Int} (h0 : 0 ≤ x) (h1 : x < 10 ^ (9 : Int).toNat) : x.natAbs < 2 ^ 300 := by
  have e : (10 : Int) ^ (9 : Int).toNat < ((2 ^ 300 : Nat) : Int) := by decide +kernel
  generalize (10 : Int) ^ (9 : Int).toNat = y at *
  generalize (2 : Nat) ^ 300 = z at *
  omega
/-- a card of these -/
def OkC1 (c : Crd) : Prop := c.1 ≠ M28.oldS ∧ (∀ x ∈ c.2.ms, x = M28.oldS) ∧ boundD c.2.bs = none ∧ c.2.rs = false ∧ c.2.bs.length ≤ 60 ∧ c.2.ms.length ≤ 60 ∧ c.2.pts.natAbs < 2 ^ 300
theorem cm_of {c d : Crd} (hc : OkC1 c) (hd : OkC1 d) : cM c d = true := by
  unfold cM mmD
  have n1 : ¬ c.1 ∈ d.2.ms := fun z => hc.1 (hd.2.1 _ z)
  have n2 : ¬ d.1 ∈ c.2.ms := fun z => hd.1 (hc.2.1 _ z)
  rw [decide_eq_false n1, decide_eq_false n2]
  show freeB c.2.bs d.2.bs = true
  exact decide_eq_true (.inl hc.2.2.1)
def spCs (K : PySem.W.Frag) : Sp := fun vs H Q _ => ∃ (a : Addr) (ns : List Int) (m : Int), vs = [.ref a, .int m] ∧ SqL K H a (ns.map V.int) ∧ 0 ≤ m ∧ m ≤ 40 ∧ ∀ (l : Addr) (rs : List Addr) (cs : List Crd) (H' : Hp), Same H H' → H' l = some (.lst (rs.map V.ref)) → Paired (fun r c => CardX H' r c.1 c.2) rs cs → cs.length = m.toNat → (∀ c ∈ cs, OkC1 c) → Q (.ref l) H'
theorem scCs : FnScope ["_law_script", "_law_many", "_law_names_here", "_law_some", "_law_cards", "_law_k", "_law_cell", "_law_points", "_law_sides"] ["_law_script", "_law_many"] (defScope sCs) := ⟨rfl, rfl, rfl, by decide +kernel, rfl, by decide +kernel, by decide +kernel⟩
theorem okCs (d : Df K mg "_law_cards_by" sCs ["_law_script", "_law_many"]) (dC : Df K mg "_law_cell_at" sCell ["_law_script", "_law_k"]) (dM : Df K mg "_law_mix" sMix ["_law_seed", "_law_k"]) (dNm : Df K mg "_law_names" sNm ["_law_cell", "_law_many"]) (T : BiR mg) : FnOk P w K mg base CX0 2 d.f d.fd ["_law_script", "_law_many"] (spCs K) := by
  have GC : FnOk P w K mg base CX0 1 dC.f dC.fd ["_law_script", "_law_k"] (spCell K) := okCell dC T
  have GM : FnOk P w K mg base CX0 1 dM.f dM.fd ["_law_seed", "_law_k"] spMix := okMix dM
  have GNm : FnOk P w K mg base CX0 1 dNm.f dNm.fd ["_law_cell", "_law_many"] spNm := okNm dNm T
  refine d.F.ok scCs (fun vs H Q E h => ?_) (fun cdv A outer s H vs Q E hr h => ?_)
  · obtain ⟨_, _, _, rfl, _⟩ := h
    rfl
  · obtain ⟨a, ns, m, rfl, hS, m0, m1, q⟩ := h
    refine ⟨_, (pss_cons (ps_set (i := 2) scCs.nd rfl (by first | exact Or.inl rfl | exact Or.inr rfl) (pe_call GNm (hr.mono (by decide)) (by rfl) dNm.m dNm.F.kp dNm.b .nil pass0 (pa_ca (pe_call GC (hr.mono (by decide)) (by rfl) dC.m dC.F.kp dC.b .nil pass0 (pa_nm (pv 0) (pa_con pe_int pa_nil))) (pa_nm (pv 1) pa_nil))))
      (pss_cons (ps_set (i := 3) scCs.nd rfl (by first | exact Or.inl rfl | exact Or.inr rfl) (pe_lst (pa_con pe_str (pa_con pe_str (pa_con pe_str (pa_con pe_str (pa_con pe_str (pa_con pe_str (pa_con pe_str (pa_con pe_str (pa_con pe_str (pa_con pe_str (pa_con pe_str pa_nil)))))))))))))
      (pss_cons (ps_set (i := 4) scCs.nd rfl (by first | exact Or.inl rfl | exact Or.inr rfl) (pe_lst pa_nil))
      (pss_cons (ps_for PassesOwn.never rfl (pi_range1 (by rfl) T.range (pa_nm (pv 1) pa_nil)) (pg_name (i := 5) scCs.nd rfl (by first | exact Or.inl rfl | exact Or.inr rfl)) (pss_cons (ps_set (i := 6) scCs.nd rfl (by first | exact Or.inl rfl | exact Or.inr rfl) (pe_op op_add (pe_call GC (hr.mono (by decide)) (by rfl) dC.m dC.F.kp dC.b .nil pass0 (pa_nm (pv 0) (pa_bi (pe_op op_add pe_int (pe_op op_mod (pv 5) pe_int)) pa_nil))) (pe_op op_mul (pe_op op_fdiv (pv 5) pe_int) pe_int)))
      (pss_cons (ps_set (i := 7) scCs.nd rfl (by first | exact Or.inl rfl | exact Or.inr rfl) (pe_op op_mod (pe_op op_fdiv (pv 6) pe_int) pe_int))
      (pss_cons (ps_if (pt_cmpR op_eq (pe_op op_mod (pe_op op_fdiv (pe_call GC (hr.mono (by decide)) (by rfl) dC.m dC.F.kp dC.b .nil pass0 (pa_nm (pv 0) (pa_con pe_int pa_nil))) pe_int) pe_int) pe_int (nomark _)) (pss_one (ps_set (i := 7) scCs.nd rfl (by first | exact Or.inl rfl | exact Or.inr rfl) (pe_op op_mod (pe_op op_fdiv (pv 6) pe_int) (pe_op op_pow pe_int pe_int)))) pss_nil)
      (pss_cons (ps_set (i := 8) scCs.nd rfl (by first | exact Or.inl rfl | exact Or.inr rfl) (pe_ix ix_list (pv 3) (pe_ix ix_list (pe_lst (pa_con pe_int (pa_con pe_int (pa_con pe_int (pa_con pe_int (pa_con pe_int (pa_con pe_int (pa_con pe_int (pa_con pe_int (pa_con pe_int pa_nil)))))))))) (pe_op op_mod (pe_call GM (hr.mono (by decide)) (by rfl) dM.m dM.F.kp dM.b .nil pass0 (pa_nm (pv 6) (pa_nm (pv 5) pa_nil))) pe_int) (fun _ _ => rfl)) (fun _ _ => rfl)))
      (pss_one (ps_expr (pe_bm PySem.F.plainAttrs_list PySem.F.slot_list_append PySem.F.type_list_append mt_append (pv 4) (pa_tp (pe_tup (pa_cons (pe_ix ix_list (pv 2) (pv 5) (fun _ _ => rfl)) (pa_nm (pv 7) (pa_nm (pv 8) (pa_ca (pe_callTy call_tuple_of (by rfl) T.t_tuple boot_tuple (pa_cons (pe_comp (compOk (fr := [])) rfl (pi_str (pv 8)) (fun _ _ _ => pts_nil) (fun _ _ _ => pe_str)) pa_nil)) (pa_con pe_bl (pa_ca (pe_callTy call_tuple_of (by rfl) T.t_tuple boot_tuple (pa_cons (pe_comp (compOk (fr := [])) rfl (pi_str (pv 8)) (fun _ _ _ => pts_nil) (fun _ _ _ => pe_int)) pa_nil)) pa_nil))))))) pa_nil)))))))))
      (pss_one (ps_ret (pv 4))))))), ?_⟩
    refine ⟨_, rfl, a, ns, _, rfl, hS, (by decide), fun c1 => ⟨_, rfl, c1, m, rfl, m0, m1, fun ln zs H1 hln s1 hz lz nd okz => ?_⟩⟩
    have hS1 := s1.seq hS
    refine ⟨(by show 11 ≤ sizeLine; decide), fun ls hls => ?_⟩
    have s2 := same_new (o := .lst someL) hls
    have e2 : upd H1 ls (.lst someL) ls = some (.lst someL) := upd_same
    refine ⟨Nat.zero_le _, fun l hl => ?_⟩
    have hl1 : H1 l = none := s2.free hl
    have s3 := same_new (o := .lst []) hl
    have e3 := s3 _ _ e2
    have h3 : upd (upd H1 ls (.lst someL)) l (.lst []) l = some (.lst []) := upd_same
    have S3 := s2.trans s3
    generalize upd (upd H1 ls (.lst someL)) l (.lst []) = H3 at *
    have hl0 : ∀ {H' : Hp}, Same H1 H' → True := fun _ => trivial
    refine ⟨_, rfl, _, rfl, by omega, by omega, for_range (fun i σ H2 => ∃ (x5 x6 x7 x8 : Option V), σ = [some (.ref a), some (.int m), some (.ref ln), some (.ref ls), some (.ref l), x5, x6, x7, x8] ∧ (∀ b o, H3 b = some o → b ≠ l → H2 b = some o) ∧ ∃ (rs : List Addr) (cs : List Crd), H2 l = some (.lst (rs.map V.ref)) ∧ Paired (fun r c => CardX H2 r c.1 c.2) rs cs ∧ cs.length = i ∧ ∀ c ∈ cs, OkC1 c)
      ⟨_, _, _, _, rfl, fun _ _ e _ => e, [], [], h3, .nil, rfl, fun c hc => by cases hc⟩ ?_ ?_⟩
    · rintro i σ H2 hi ⟨x5, x6, x7, x8, rfl, sH, rs, cs, hrs, prs, lcs, oks⟩
      have im : (i : Int) < m := by omega
      rw [Int.zero_add]
      have SH : Same H1 H2 := fun b o e => sH _ _ (S3 _ _ e) (fun z => by rw [z, hl1] at e; cases e)
      have hS2 := SH.seq hS1
      have hz2 := SH _ _ hz
      have es2 := sH _ _ e3 (fun z => by rw [z, h3] at e3; cases e3)
      refine ⟨_, rfl, _, rfl, _, _, rfl, rfl, (by show (0 : Int) < 30; decide), _, _, rfl, rfl, a, ns, _, rfl, hS2, by omega, fun c2 => ⟨_, rfl, _, _, rfl, rfl, ⟨by decide, by decide⟩, _, _, rfl, rfl, .inr ⟨by decide, by decide⟩, _, _, rfl, rfl, ?_⟩⟩
      refine ⟨_, rfl, _, _, rfl, rfl, ⟨by decide, by decide⟩, _, _, rfl, rfl, (by show (0 : Int) < 7; decide), ?_⟩
      dsimp only
      generalize c2 + (i : Int) / 30 * 7 = c
      have b1 := Int.emod_nonneg (c / 9) (show (7 : Int) ≠ 0 by decide)
      have b2 := Int.emod_lt_of_pos (c / 9) (show (0 : Int) < 7 by decide)
      have T9 : (7 : Int) < 10 ^ (9 : Int).toNat := by decide +kernel
      try dsimp only
      refine any_ifPH (fun σ' H' => H' = H2 ∧ ∃ p : Int, σ' = [some (.ref a), some (.int m), some (.ref ln), some (.ref ls), some (.ref l), some (.int (i : Int)), some (.int c), some (.int p), x8] ∧ 0 ≤ p ∧ p < 10 ^ (9 : Int).toNat) (fun Q q => ⟨_, rfl, a, ns, _, rfl, hS2, (by decide), fun c3 => ⟨_, _, rfl, rfl, ⟨by decide, by decide⟩, _, _, rfl, rfl, (by show (0 : Int) < 2; decide), rfl, _, rfl, q _⟩⟩) (fun D' k => ⟨_, rfl, _, _, rfl, rfl, ⟨by decide, by decide⟩, _, _, rfl, rfl, ⟨by decide, by decide, by decide⟩, _, _, rfl, rfl, pw _, k _ _ ⟨rfl, _, rfl, Int.emod_nonneg _ (Int.ne_of_gt (pw _)), Int.emod_lt_of_pos _ (pw _)⟩⟩) ⟨rfl, _, rfl, b1, Int.lt_trans b2 T9⟩ ?_
      rintro _ H2 ⟨rfl, p, rfl, p0, p1⟩
      refine ⟨_, rfl, (by show 9 ≤ sizeLine; decide), fun pi hpi => ?_⟩
      have s4 := same_new (o := .lst [V.int 0, V.int 1, V.int 2, V.int 3, V.int 4, V.int 5, V.int 6, V.int 9, V.int 10]) hpi
      have e4 : upd H2 pi (.lst [V.int 0, V.int 1, V.int 2, V.int 3, V.int 4, V.int 5, V.int 6, V.int 9, V.int 10]) pi = some (.lst [V.int 0, V.int 1, V.int 2, V.int 3, V.int 4, V.int 5, V.int 6, V.int 9, V.int 10]) := upd_same
      generalize upd H2 pi (.lst [V.int 0, V.int 1, V.int 2, V.int 3, V.int 4, V.int 5, V.int 6, V.int 9, V.int 10]) = H4 at *
      refine ⟨_, rfl, _, rfl, c, _, rfl, by omega, by omega, fun z z0 => ?_⟩
      obtain ⟨kx, bs, at1, at2, bnd, lb⟩ := some_at (Int.emod_nonneg z (show (9 : Int) ≠ 0 by decide)) (Int.emod_lt_of_pos z (show (0 : Int) < 9 by decide))
      refine ⟨_, _, rfl, rfl, (by show (0 : Int) < 9; decide), pi, _, _, _, rfl, rfl, SqL.of e4, at1, ls, _, _, _, rfl, rfl, SqL.of (s4 _ _ es2), at2, ?_⟩
      have kz : ((i : Int)).toNat < zs.length := by omega
      have az := str_at (zs := zs) (i := (i : Int)) (by omega) (List.getElem?_eq_getElem kz)
      have oz := okz _ (List.getElem_mem kz)
      generalize zs[((i : Int)).toNat] = nm at az oz
      have hrs4 := s4 _ _ hrs
      refine ⟨_, rfl, .inl ⟨rfl, _, SqL.of hrs4⟩, _, rfl, _, rfl, ln, _, _, _, rfl, rfl, SqL.of (s4 _ _ hz2), az, _, rfl, _, rfl, _, rfl, _, rfl, fun D hD => comp_str (z := sS bs) (fun j ac H5 => H5 D = some (.lst ac) ∧ Same H4 H5 ∧ ∃ ys : List Str, ac = ys.map V.str ∧ ys.length = j ∧ ∀ y ∈ ys, y = M28.oldS) ⟨upd_same, same_new hD, [], rfl, rfl, fun y hy => by cases hy⟩ ?_ ?_ ?_⟩
      · rintro j ac H5 hj ⟨h5, s5, ys, rfl, ly, _⟩
        rw [sS_size] at hj
        exact ⟨h5, small1000 (by rw [List.length_map]; omega)⟩
      · rintro j cc ac H5 N hj hN ⟨h5, s5, ys, rfl, ly, oy⟩
        refine ⟨h5, hN _ _ ⟨upd_same, same_upd s5 hD, ys ++ [M28.oldS], by rw [List.map_append]; rfl, by rw [List.length_append, ly]; rfl, fun y hy => ?_⟩⟩
        rcases List.mem_append.mp hy with z' | z'
        · exact oy y z'
        · exact List.mem_singleton.mp z'
      rintro ac H5 ⟨h5, s5, ys, rfl, ly, oy⟩
      rw [sS_size] at ly
      refine ⟨D, _, rfl, .inl ⟨SqL.of h5, fun mt hmt => ?_⟩⟩
      have s6 := same_new (o := .tup (ys.map V.str)) hmt
      have e6 : upd H5 mt (.tup (ys.map V.str)) mt = some (.tup (ys.map V.str)) := upd_same
      generalize upd H5 mt (.tup (ys.map V.str)) = H6 at *
      refine ⟨_, rfl, _, rfl, fun F hF => comp_str (z := sS bs) (fun j ac H7 => H7 F = some (.lst ac) ∧ Same H6 H7 ∧ ∃ ks : List Int, ac = ks.map V.int ∧ ks.length = j) ⟨upd_same, same_new hF, [], rfl, rfl⟩ ?_ ?_ ?_⟩
      · rintro j ac H7 hj ⟨h7, s7, ks, rfl, lk⟩
        rw [sS_size] at hj
        exact ⟨h7, small1000 (by rw [List.length_map]; omega)⟩
      · rintro j cc ac H7 N hj hN ⟨h7, s7, ks, rfl, lk⟩
        exact ⟨h7, hN _ _ ⟨upd_same, same_upd s7 hF, ks ++ [0], by rw [List.map_append]; rfl, by rw [List.length_append, lk]; rfl⟩⟩
      rintro ac H7 ⟨h7, s7, ks, rfl, lk⟩
      refine ⟨F, _, rfl, .inl ⟨SqL.of h7, fun tb htb => ?_⟩⟩
      have s8 := same_new (o := .tup (ks.map V.int)) htb
      have e8 : upd H7 tb (.tup (ks.map V.int)) tb = some (.tup (ks.map V.int)) := upd_same
      generalize upd H7 tb (.tup (ks.map V.int)) = H8 at *
      refine ⟨(by show 6 ≤ sizeLine; decide), fun t ht => ?_⟩
      have s9 := same_new (o := .tup [.str nm, .int p, .str (sS bs), .ref mt, .bl false, .ref tb]) ht
      have cn : CardX (upd H8 t (.tup [.str nm, .int p, .str (sS bs), .ref mt, .bl false, .ref tb])) t nm ⟨p, bs, ys, false, ks⟩ := ⟨mt, tb, upd_same, s9 _ _ (s8 _ _ (s7 _ _ e6)), s9 _ _ e8⟩
      generalize upd H8 t (.tup [.str nm, .int p, .str (sS bs), .ref mt, .bl false, .ref tb]) = H9 at *
      have S9 := ((((s4.trans s5).trans s6).trans s7).trans s8).trans s9
      have hr9 := S9 _ _ hrs
      have lrs : rs.length = cs.length := Paired.length prs
      refine ⟨l, _, _, rfl, rfl, hr9, small1000 (by rw [List.length_map]; omega), ?_⟩
      refine ⟨_, _, _, _, rfl, fun b o e n => ?_, rs ++ [t], cs ++ [(nm, ⟨p, bs, ys, false, ks⟩)], by rw [upd_same, List.map_append]; rfl, ?_, by rw [List.length_append, lcs]; rfl, ?_⟩
      · rw [upd_ne n]; exact S9 _ _ (sH b o e n)
      · refine Paired.mapP (pairedApp (Paired.mapP prs fun _ _ z => z.same S9) (.cons cn .nil)) fun r c' hp => ?_
        obtain ⟨m1', b1', e1, e2', e3'⟩ := hp
        have up : ∀ (b : Addr) (xs : List V), H9 b = some (.tup xs) → upd H9 l (.lst (rs.map V.ref ++ [.ref t])) b = some (.tup xs) := fun b xs e => by
          rw [upd_ne (ne_of e hr9 (by intro z; cases z))]; exact e
        exact ⟨m1', b1', up _ _ e1, up _ _ e2', up _ _ e3'⟩
      · intro c' hc'
        rcases List.mem_append.mp hc' with z' | z'
        · exact oks c' z'
        · rw [List.mem_singleton.mp z']
          exact ⟨oz.1, oy, bnd, rfl, by show bs.length ≤ 60; omega, by show ys.length ≤ 60; omega, p9 p0 p1⟩
    · rintro σ H2 ⟨x5, x6, x7, x8, rfl, sH, rs, cs, hrs, prs, lcs, oks⟩
      have SH : Same H1 H2 := fun b o e => sH _ _ (S3 _ _ e) (fun z => by rw [z, hl1] at e; cases e)
      exact ⟨_, rfl, q l rs cs H2 (s1.trans SH) hrs prs lcs oks⟩
def spPr : Sp := fun vs H Q _ => ∃ (a : Addr) (os : List Int) (m : Nat), vs = [.ref a, .int (m : Int)] ∧ H a = some (.lst (os.map V.int)) ∧ 2 ≤ m ∧ m ≤ 40 ∧ os.Perm (bsN m) ∧ ∀ (l : Addr) (ps : List (Int × Int)) (H' : Hp), Same H H' → H l = none → PL H' l ps → ps.length ≤ 40 → (∀ p ∈ ps, OkPr m p) → Q (.ref l) H'
theorem scPb2 : FnScope ["_law_order_here", "_law_many", "_law_pairs", "_law_k"] ["_law_order_here", "_law_many"] (defScope sPr) := ⟨rfl, rfl, rfl, by decide +kernel, rfl, by decide +kernel, by decide +kernel⟩
theorem okPr (d : Df K mg "_law_pairs_by" sPr ["_law_order_here", "_law_many"]) (T : BiR mg) : FnOk P w K mg base CX0 1 d.f d.fd ["_law_order_here", "_law_many"] spPr := by
  refine d.F.ok scPb2 (fun vs H Q E h => ?_) (fun cdv A outer s H vs Q E hr h => ?_)
  · obtain ⟨_, _, _, rfl, _⟩ := h
    rfl
  · obtain ⟨a, os, m, rfl, ha, m2, m40, hp, q⟩ := h
    have lo : os.length = m := by rw [hp.length_eq]; unfold bsN; rw [List.length_map, List.length_range]
    have nd : os.Nodup := hp.nodup_iff.mpr (bsN_nd m)
    have rg : ∀ i (h : i < os.length), 0 ≤ os[i] ∧ os[i] < (m : Int) := fun i h => bsN_mem (hp.mem_iff.mp (List.getElem_mem h))
    refine ⟨_, (pss_cons (ps_set (i := 2) scPb2.nd rfl (by first | exact Or.inl rfl | exact Or.inr rfl) (pe_lst pa_nil))
      (pss_cons (ps_for PassesOwn.never rfl (pi_rangeS2 (by rfl) T.range (pa_cons pe_int (pa_cons (pe_op op_sub (pv 1) pe_int) (pa_cons pe_int pa_nil)))) (pg_name (i := 3) scPb2.nd rfl (by first | exact Or.inl rfl | exact Or.inr rfl)) (pss_one (ps_expr (pe_bm PySem.F.plainAttrs_list PySem.F.slot_list_append PySem.F.type_list_append mt_append (pv 2) (pa_cons (pe_tup (pa_cons (pe_callB (call_min2 rfl) (by rfl) T.min boot_min (pa_cons (pe_ix ix_list (pv 0) (pv 3) (fun _ _ => rfl)) (pa_cons (pe_ix ix_list (pv 0) (pe_op op_add (pv 3) pe_int) (fun _ _ => rfl)) pa_nil))) (pa_cons (pe_callB (call_max2 rfl) (by rfl) T.max boot_max (pa_cons (pe_ix ix_list (pv 0) (pv 3) (fun _ _ => rfl)) (pa_cons (pe_ix ix_list (pv 0) (pe_op op_add (pv 3) pe_int) (fun _ _ => rfl)) pa_nil))) pa_nil))) pa_nil)))))
      (pss_cons (ps_if (pt_cmpR op_eq (pe_op op_mod (pv 1) pe_int) pe_int (nomark _)) (pss_one (ps_expr (pe_bm PySem.F.plainAttrs_list PySem.F.slot_list_append PySem.F.type_list_append mt_append (pv 2) (pa_cons (pe_tup (pa_cons (pe_ix ix_list (pv 0) (pe_op op_sub (pv 1) pe_int) (fun _ _ => rfl)) (pa_cons (pv 1) pa_nil))) pa_nil)))) pss_nil)
      (pss_one (ps_ret (pv 2)))))), ?_⟩
    refine ⟨Nat.zero_le _, fun l hl => ?_⟩
    have s1 := same_new (o := .lst []) hl
    refine ⟨_, rfl, _, _, rfl, rfl, _, _, rfl, by decide, by omega, by omega, for_rangec (fun i σ H2 => ∃ (x3 : Option V) (ps : List (Int × Int)), σ = [some (.ref a), some (.int (m : Int)), some (.ref l), x3] ∧ Same H H2 ∧ PL H2 l ps ∧ ps.length = i ∧ ∀ p ∈ ps, OkPr m p)
      ⟨_, [], rfl, s1, ⟨[], upd_same, .nil⟩, rfl, fun p hp => by cases hp⟩ ?_ ?_⟩
    · rintro i σ H2 hi ⟨x3, ps, rfl, s2, ⟨rs, hrs, prs⟩, lp, okp⟩
      have i1 : 2 * i < os.length := by omega
      have i2 : 2 * i + 1 < os.length := by omega
      have ha2 := s2 _ _ ha
      have a1 : atI (os.map V.int) (0 + (i : Int) * 2) = some (.int os[2 * i]) := int_at (by omega) (by rw [show (0 + (i : Int) * 2).toNat = 2 * i by omega]; exact List.getElem?_eq_getElem i1)
      have a2 : atI (os.map V.int) (0 + (i : Int) * 2 + 1) = some (.int os[2 * i + 1]) := int_at (by omega) (by rw [show (0 + (i : Int) * 2 + 1).toNat = 2 * i + 1 by omega]; exact List.getElem?_eq_getElem i2)
      have r1 := rg _ i1
      have r2 := rg _ i2
      have ne : os[2 * i] ≠ os[2 * i + 1] := List.pairwise_iff_getElem.mp (List.nodup_iff_pairwise_ne.mp nd) (2 * i) (2 * i + 1) i1 i2 (by omega)
      generalize os[2 * i] = x at a1 r1 ne
      generalize os[2 * i + 1] = y at a2 r2 ne
      refine ⟨_, rfl, .inl ⟨rfl, _, SqL.of hrs⟩, _, rfl, _, rfl, a, _, _, _, rfl, rfl, SqL.of ha2, a1, _, rfl, _, rfl, _, _, rfl, rfl, a, _, _, _, rfl, rfl, SqL.of ha2, a2, _, _, rfl, _, rfl, _, rfl, a, _, _, _, rfl, rfl, SqL.of ha2, a1, _, rfl, _, rfl, _, _, rfl, rfl, a, _, _, _, rfl, rfl, SqL.of ha2, a2, _, _, rfl, (by show 2 ≤ sizeLine; decide), fun t ht => ?_⟩
      have s3 := same_new (o := tp (if y < x then y else x, if y > x then y else x)) ht
      have h3 := s3 _ _ hrs
      refine ⟨l, _, _, rfl, rfl, h3, small1000 (by rw [List.length_map, Prs.length prs]; omega), ?_⟩
      refine ⟨_, ps ++ [(if y < x then y else x, if y > x then y else x)], rfl, same_upd (s2.trans s3) hl, ⟨rs ++ [t], by rw [upd_same, List.map_append]; rfl, ?_⟩, by rw [List.length_append, lp]; rfl, ?_⟩
      · exact Prs.upd (pairedApp (prs.same s3) (.cons upd_same .nil)) (lst_ne_tp h3)
      · intro p hp'
        rcases List.mem_append.mp hp' with z | z
        · exact okp p z
        · rw [List.mem_singleton.mp z]
          unfold OkPr
          simp only
          split <;> split <;> omega
    rintro σ H2 ⟨x3, ps, rfl, s2, pl, lp, okp⟩
    have ha2 := s2 _ _ ha
    have lp20 : ps.length ≤ 20 := by omega
    refine ⟨_, rfl, _, _, rfl, rfl, (by show (0 : Int) < 2; decide), rfl, _, rfl, ?_⟩
    rw [int_dec]
    by_cases ho : (m : Int) % 2 = 1
    · rw [decide_eq_true ho]
      have il : m - 1 < os.length := by omega
      have a1 : atI (os.map V.int) ((m : Int) - 1) = some (.int os[m - 1]) := int_at (by omega) (by rw [show ((m : Int) - 1).toNat = m - 1 by omega]; exact List.getElem?_eq_getElem il)
      have r1 := rg _ il
      generalize os[m - 1] = x at a1 r1
      obtain ⟨rs, hrs, prs⟩ := pl
      refine iteT ⟨_, rfl, .inl ⟨rfl, _, SqL.of hrs⟩, _, rfl, _, rfl, _, _, rfl, rfl, a, _, _, _, rfl, rfl, SqL.of ha2, a1, _, rfl, (by show 2 ≤ sizeLine; decide), fun t ht => ?_⟩
      have s3 := same_new (o := tp (x, (m : Int))) ht
      have h3 := s3 _ _ hrs
      refine ⟨l, _, _, rfl, rfl, h3, small1000 (by rw [List.length_map, Prs.length prs]; omega), ?_⟩
      refine ⟨_, rfl, q l (ps ++ [(x, (m : Int))]) _ (same_upd (s2.trans s3) hl) hl ⟨rs ++ [t], by rw [upd_same, List.map_append]; rfl, ?_⟩ (by rw [List.length_append, List.length_singleton]; omega) ?_⟩
      · exact Prs.upd (pairedApp (prs.same s3) (.cons upd_same .nil)) (lst_ne_tp h3)
      · intro p hp'
        rcases List.mem_append.mp hp' with z | z
        · exact okp p z
        · rw [List.mem_singleton.mp z]
          exact ⟨r1.1, r1.2, r1.2, .inr ⟨rfl, by omega⟩⟩
    · rw [decide_eq_false ho]
      exact iteF ⟨_, rfl, q l ps H2 s2 hl pl (by omega) okp⟩
def spSu : Sp := fun vs H Q _ => ∃ (b l : Addr) (kvs : List (List Key × V)) (cs : List Crd) (ps : List (Int × Int)), vs = [.ref b, .ref l] ∧ H b = some (.dT kvs) ∧ PL H l ps ∧ Bk cs kvs ∧ (∀ p ∈ ps, (valV kvs (kk p.1 p.2)).isSome = true) ∧ Q (.int (sumP cs ps)) H
theorem scSu : FnScope ["_law_book", "_law_pairs", "_law_whole", "_law_pair"] ["_law_book", "_law_pairs"] (defScope sSu) := ⟨rfl, rfl, rfl, by decide +kernel, rfl, by decide +kernel, by decide +kernel⟩
theorem okSu (d : Df K mg "_law_sum" sSu ["_law_book", "_law_pairs"]) : FnOk P w K mg base CX0 1 d.f d.fd ["_law_book", "_law_pairs"] spSu := by
  refine d.F.ok scSu (fun vs H Q E h => ?_) (fun cdv A outer s H vs Q E hr h => ?_)
  · obtain ⟨_, _, _, _, _, rfl, _⟩ := h
    rfl
  · obtain ⟨b, l, kvs, cs, ps, rfl, hb, ⟨rs, hrs, prs⟩, bk, hs, q⟩ := h
    have hu := hu_of hr
    have lrs : rs.length = ps.length := Prs.length prs
    refine ⟨_, (pss_cons (ps_set (i := 2) scSu.nd rfl (by first | exact Or.inl rfl | exact Or.inr rfl) pe_int)
      (pss_cons (ps_for PassesOwn.never rfl (pi_list (pv 1)) (pg_name (i := 3) scSu.nd rfl (by first | exact Or.inl rfl | exact Or.inr rfl)) (pss_cons (ps_if (pt_cmp (pc_dnotin hu (pv 3) (pv 0))) (pss_one (ps_ret pe_non)) pss_nil)
      (pss_one (ps_set (i := 2) scSu.nd rfl (by first | exact Or.inl rfl | exact Or.inr rfl) (pe_op op_add (pv 2) (pe_dget hu (pv 0) (pv 3) (fun _ _ => rfl)))))))
      (pss_one (ps_ret (pv 2))))), ?_⟩
    refine ⟨_, rfl, l, rfl, ⟨_, SqL.of hrs⟩, for_list (xs := rs.map V.ref) (fun i σ H2 => ∃ x3 : Option V, σ = [some (.ref b), some (.ref l), some (.int (sumP cs (ps.take i))), x3] ∧ H2 = H) ⟨_, rfl, rfl⟩ ?_ ?_ ?_⟩
    · rintro i σ H2 hi ⟨_, rfl, rfl⟩
      exact SqL.of hrs
    · rintro i x σ H2 hx ⟨x3, rfl, rfl⟩
      rw [List.getElem?_map] at hx
      obtain ⟨r, hr', rfl⟩ := Option.map_eq_some_iff.mp hx
      obtain ⟨p, hp, hrp⟩ := pairedGetL prs hr'
      have hrp : H2 r = some (.tup ((kk p.1 p.2).map kV)) := hrp
      have g := DGet.t (k := kk p.1 p.2) hb hrp
      have es := hs p (List.mem_of_getElem? hp)
      obtain ⟨v, ev⟩ := Option.isSome_iff_exists.mp es
      have ex := bk.val _ _ _ ev
      subst ex
      rw [ev] at g
      refine ⟨_, rfl, _, rfl, b, _, rfl, g, _, rfl, iteF ⟨_, rfl, _, rfl, _, rfl, b, _, rfl, g, _, _, rfl, rfl, ⟨some (.ref r), ?_, rfl⟩⟩⟩
      rw [List.take_add_one, hp, Option.toList_some, sumP_snoc]; rfl
    · rintro σ H2 ⟨x3, rfl, rfl⟩
      rw [List.length_map, lrs, List.take_length]
      exact ⟨_, rfl, q⟩
end
section
variable {P : Program} {w : World} {K : PySem.W.Frag} {mg : Str → Option Value} {base : Heap}
seal PA PE PS PSs PT PW
theorem q3_two {cs : List Crd} {p : Int × Int} {c d : Crd} (hc : cs[p.1.toNat]? = some c) (hd : cs[p.2.toNat]? = some d) : q3 cs p = ((c.2.pts - d.2.pts) * (c.2.pts - d.2.pts), if alikeD c.2.bs d.2.bs = true then 1 else 0, p.2 - p.1 - 1) := by
  unfold q3; rw [hc, hd]
theorem q3_one {cs : List Crd} {p : Int × Int} {c : Crd} (hc : cs[p.1.toNat]? = some c) (hd : cs[p.2.toNat]? = none) : q3 cs p = ((c.2.pts - leastD cs) * (c.2.pts - leastD cs), 0, (cs.length : Int) - 1 - p.1) := by
  unfold q3; rw [hc, hd]
def spTr : Sp := fun vs H Q _ => ∃ (a l : Addr) (rs : List Addr) (cs : List Crd) (ps : List (Int × Int)), vs = [.ref a, .ref l] ∧ H a = some (.lst (rs.map V.ref)) ∧ Paired (fun r c => CardX H r c.1 c.2) rs cs ∧ OkCs cs ∧ 2 ≤ cs.length ∧ PL H l ps ∧ (∀ p ∈ ps, OkPr cs.length p) ∧ ∀ (t : Addr) (H' : Hp), Same H H' → H' t = some (.lst ([(sum3 cs ps).1, (sum3 cs ps).2.1, (sum3 cs ps).2.2].map V.int)) → Q (.ref t) H'
theorem scTr : FnScope ["_law_cards", "_law_pairs", "_law_low", "_law_squares", "_law_same", "_law_between", "_law_pair", "_law_one", "_law_other"] ["_law_cards", "_law_pairs"] (defScope sTr) := ⟨rfl, rfl, rfl, by decide +kernel, rfl, by decide +kernel, by decide +kernel⟩
theorem okTr (d : Df K mg "_law_three" sTr ["_law_cards", "_law_pairs"]) (dWs : Df K mg "_law_wish" sWs ["_law_sides"]) (dBd : Df K mg "_law_bound" sBd ["_law_sides"]) (dLn : Df K mg "_law_lean" sLn ["_law_sides"]) (T : BiR mg) : FnOk P w K mg base CX0 4 d.f d.fd ["_law_cards", "_law_pairs"] spTr := by
  have GWs : FnOk P w K mg base CX0 3 dWs.f dWs.fd ["_law_sides"] spWs := okWs dWs dBd dLn T
  refine d.F.ok scTr (fun vs H Q E h => ?_) (fun cdv A outer s H vs Q E hr h => ?_)
  · obtain ⟨_, _, _, _, _, rfl, _⟩ := h
    rfl
  · obtain ⟨a, l, rs, cs, ps, rfl, ha, prs, ok, c2, ⟨qs, hqs, pqs⟩, okp, q⟩ := h
    have lrs : rs.length = cs.length := Paired.length prs
    have l60 := ok.1
    have cne : cs ≠ [] := fun e => by rw [e] at c2; exact absurd c2 (by decide)
    have ln : (((rs.map V.ref).length : Nat) : Int) = (cs.length : Int) := by rw [List.length_map, lrs]
    refine ⟨_, (pss_cons (ps_set (i := 2) scTr.nd rfl (by first | exact Or.inl rfl | exact Or.inr rfl) (pe_callB (call_minI rfl) (by rfl) T.min boot_min (pa_cons (pe_comp (compOk (fr := [])) rfl (pi_list (pv 0)) (fun _ _ _ => pts_nil) (fun _ _ _ => (pe_ix (ix_tupK (K := K)) (pv 0) pe_int (fun _ _ => rfl)))) pa_nil)))
      (pss_cons (ps_set (i := 3) scTr.nd rfl (by first | exact Or.inl rfl | exact Or.inr rfl) pe_int)
      (pss_cons (ps_set (i := 4) scTr.nd rfl (by first | exact Or.inl rfl | exact Or.inr rfl) pe_int)
      (pss_cons (ps_set (i := 5) scTr.nd rfl (by first | exact Or.inl rfl | exact Or.inr rfl) pe_int)
      (pss_cons (ps_for PassesOwn.never rfl (pi_list (pv 1)) (pg_name (i := 6) scTr.nd rfl (by first | exact Or.inl rfl | exact Or.inr rfl)) (pss_cons (ps_set (i := 7) scTr.nd rfl (by first | exact Or.inl rfl | exact Or.inr rfl) (pe_ix ix_list (pv 0) (pe_ix ix_tup (pv 6) pe_int (fun _ _ => rfl)) (fun _ _ => rfl)))
      (pss_one (ps_if (pt_cmpR op_eq (pe_ix ix_tup (pv 6) pe_int (fun _ _ => rfl)) (pe_callB call_len_seq (by rfl) T.len PySem.boot_len (pa_cons (pv 0) pa_nil)) (nomark _)) (pss_cons (ps_set (i := 3) scTr.nd rfl (by first | exact Or.inl rfl | exact Or.inr rfl) (pe_op op_add (pv 3) (pe_op op_mulB (pe_op op_sub (pe_ix ix_tup (pv 7) pe_int (fun _ _ => rfl)) (pv 2)) (pe_op op_sub (pe_ix ix_tup (pv 7) pe_int (fun _ _ => rfl)) (pv 2)))))
      (pss_one (ps_set (i := 5) scTr.nd rfl (by first | exact Or.inl rfl | exact Or.inr rfl) (pe_op op_sub (pe_op op_sub (pe_op op_add (pv 5) (pe_callB call_len_seq (by rfl) T.len PySem.boot_len (pa_cons (pv 0) pa_nil))) pe_int) (pe_ix ix_tup (pv 6) pe_int (fun _ _ => rfl)))))) (pss_cons (ps_set (i := 8) scTr.nd rfl (by first | exact Or.inl rfl | exact Or.inr rfl) (pe_ix ix_list (pv 0) (pe_ix ix_tup (pv 6) pe_int (fun _ _ => rfl)) (fun _ _ => rfl)))
      (pss_cons (ps_set (i := 3) scTr.nd rfl (by first | exact Or.inl rfl | exact Or.inr rfl) (pe_op op_add (pv 3) (pe_op op_mulB (pe_op op_sub (pe_ix ix_tup (pv 7) pe_int (fun _ _ => rfl)) (pe_ix ix_tup (pv 8) pe_int (fun _ _ => rfl))) (pe_op op_sub (pe_ix ix_tup (pv 7) pe_int (fun _ _ => rfl)) (pe_ix ix_tup (pv 8) pe_int (fun _ _ => rfl))))))
      (pss_cons (ps_set (i := 5) scTr.nd rfl (by first | exact Or.inl rfl | exact Or.inr rfl) (pe_op op_sub (pe_op op_sub (pe_op op_add (pv 5) (pe_ix ix_tup (pv 6) pe_int (fun _ _ => rfl))) (pe_ix ix_tup (pv 6) pe_int (fun _ _ => rfl))) pe_int))
      (pss_one (ps_if (PW.pt (pw_and (pt_cmpR op_ne (pe_call GWs (hr.mono (by decide)) (by rfl) dWs.m dWs.F.kp dWs.b .nil pass0 (pa_cons (pe_ix ix_tup (pv 7) pe_int (fun _ _ => rfl)) pa_nil)) pe_str (nomark _)) (pw_and1 (pt_cmpR op_eq (pe_call GWs (hr.mono (by decide)) (by rfl) dWs.m dWs.F.kp dWs.b .nil pass0 (pa_cons (pe_ix ix_tup (pv 7) pe_int (fun _ _ => rfl)) pa_nil)) (pe_call GWs (hr.mono (by decide)) (by rfl) dWs.m dWs.F.kp dWs.b .nil pass0 (pa_cons (pe_ix ix_tup (pv 8) pe_int (fun _ _ => rfl)) pa_nil)) (nomark _))))) (pss_one (ps_set (i := 4) scTr.nd rfl (by first | exact Or.inl rfl | exact Or.inr rfl) (pe_op op_add (pv 4) pe_int))) pss_nil)))))))))
      (pss_one (ps_ret (pe_lst (pa_cons (pv 3) (pa_cons (pv 4) (pa_cons (pv 5) pa_nil))))))))))), ?_⟩
    refine ⟨_, rfl, a, rfl, ⟨_, SqL.of ha⟩, fun D hD => comp_list (xs := rs.map V.ref) (fun i ac H2 => H2 D = some (.lst ac) ∧ Same H H2 ∧ ac = ((cs.take i).map fun c => c.2.pts).map V.int) ⟨upd_same, same_new hD, rfl⟩ ?_ ?_ ?_⟩
    · rintro i ac H2 hi ⟨h2, s2, rfl⟩
      refine ⟨h2, small1000 ?_, SqL.of (s2 _ _ ha)⟩
      rw [List.length_map, List.length_map, List.length_take]; omega
    · rintro i x ac H2 N hx hN ⟨h2, s2, rfl⟩
      rw [List.getElem?_map] at hx
      obtain ⟨r, hr', rfl⟩ := Option.map_eq_some_iff.mp hx
      obtain ⟨ci, hci, m, tb, e, _, _⟩ := pairedGetL prs hr'
      refine ⟨_, rfl, r, _, _, _, rfl, rfl, SqT.of (s2 _ _ e), rfl, h2, hN _ _ ⟨upd_same, same_upd s2 hD, ?_⟩⟩
      rw [List.take_add_one, hci, Option.toList_some, List.map_append, List.map_append]; rfl
    rintro ac H2 ⟨h2, s2, rfl⟩
    rw [List.length_map, lrs, List.take_length] at h2
    refine ⟨D, _, rfl, SqL.of h2, by rw [List.length_map]; omega, fun M hM hle => ?_⟩
    obtain rfl := least_eq hM hle
    have ha2 := s2 _ _ ha
    have prs2 := Paired.mapP prs fun _ _ z => CardX.same s2 z
    have hqs2 := s2 _ _ hqs
    have pqs2 := pqs.same s2
    have lqs : qs.length = ps.length := Prs.length pqs
    refine ⟨_, rfl, l, rfl, ⟨_, SqL.of hqs2⟩, for_list (xs := qs.map V.ref) (fun i σ H3 => ∃ x6 x7 x8 : Option V, σ = [some (.ref a), some (.ref l), some (.int (leastD cs)), some (.int (sum3 cs (ps.take i)).1), some (.int (sum3 cs (ps.take i)).2.1), some (.int (sum3 cs (ps.take i)).2.2), x6, x7, x8] ∧ H3 = H2) ⟨_, _, _, rfl, rfl⟩ ?_ ?_ ?_⟩
    · rintro i σ H3 hi ⟨_, _, _, rfl, rfl⟩
      exact SqL.of hqs2
    · rintro i x σ H3 hx ⟨x6, x7, x8, rfl, rfl⟩
      rw [List.getElem?_map] at hx
      obtain ⟨r, hr', rfl⟩ := Option.map_eq_some_iff.mp hx
      obtain ⟨p, hp, hrp⟩ := pairedGetL pqs2 hr'
      have hrp : H3 r = some (.tup [.int p.1, .int p.2]) := hrp
      obtain ⟨p0, p1, p2, p3⟩ := okp p (List.mem_of_getElem? hp)
      have ul : p.1.toNat < cs.length := by omega
      have hc : cs[p.1.toNat]? = some cs[p.1.toNat] := List.getElem?_eq_getElem ul
      generalize cs[p.1.toNat] = c at hc
      obtain ⟨t1, ht1, k1⟩ := pairedGet prs2 hc
      have a1 : atI (rs.map V.ref) p.1 = some (.ref t1) := ref_at p0 ht1
      obtain ⟨b1, _, g1⟩ := ok.2 c (List.mem_of_getElem? hc)
      obtain ⟨m1, tb1, e1, _, _⟩ := id k1
      have es : sum3 cs (ps.take (i + 1)) = add3 (sum3 cs (ps.take i)) (q3 cs p) := by rw [List.take_add_one, hp, Option.toList_some, sum3_snoc]
      refine ⟨_, rfl, _, rfl, r, _, _, _, rfl, rfl, SqT.of hrp, rfl, a, _, _, _, rfl, rfl, SqL.of ha2, a1, ?_⟩
      refine ⟨_, rfl, r, _, _, _, rfl, rfl, SqT.of hrp, rfl, _, rfl, a, _, rfl, .inl (SqL.of ha2), rfl, _, rfl, ?_⟩
      rw [int_dec, ln]
      by_cases hv : p.2 = (cs.length : Int)
      · rw [decide_eq_true hv]
        have hn : cs[p.2.toNat]? = none := List.getElem?_eq_none (by omega)
        have ds := dif_small g1 (least_small ok cne)
        rw [q3_one hc hn] at es
        refine iteT ⟨_, rfl, _, rfl, t1, _, _, _, rfl, rfl, SqT.of e1, rfl, _, rfl, _, _, rfl, rfl, _, rfl, t1, _, _, _, rfl, rfl, SqT.of e1, rfl, _, rfl, _, _, rfl, rfl, _, _, rfl, rfl, ⟨big_small ds, big_small ds⟩, _, _, rfl, rfl, ?_⟩
        refine ⟨_, rfl, _, rfl, a, _, rfl, .inl (SqL.of ha2), _, _, rfl, rfl, _, _, rfl, rfl, _, rfl, r, _, _, _, rfl, rfl, SqT.of hrp, rfl, _, _, rfl, rfl, ⟨some (.ref r), some (.ref t1), x8, ?_, rfl⟩⟩
        rw [es]
        show [some (V.ref a), some (.ref l), some (.int (leastD cs)), some (.int ((sum3 cs (ps.take i)).1 + (c.2.pts - leastD cs) * (c.2.pts - leastD cs))), some (.int (sum3 cs (ps.take i)).2.1), some (.int ((sum3 cs (ps.take i)).2.2 + (((rs.map V.ref).length : Nat) : Int) - 1 - p.1)), some (.ref r), some (.ref t1), x8] = [some (V.ref a), some (.ref l), some (.int (leastD cs)), some (.int ((sum3 cs (ps.take i)).1 + (c.2.pts - leastD cs) * (c.2.pts - leastD cs))), some (.int ((sum3 cs (ps.take i)).2.1 + 0)), some (.int ((sum3 cs (ps.take i)).2.2 + ((cs.length : Int) - 1 - p.1))), some (.ref r), some (.ref t1), x8]
        rw [ln, Int.add_zero, show (sum3 cs (ps.take i)).2.2 + (cs.length : Int) - 1 - p.1 = (sum3 cs (ps.take i)).2.2 + ((cs.length : Int) - 1 - p.1) by omega]
      · rw [decide_eq_false hv]
        have vl : p.2.toNat < cs.length := by omega
        have hd : cs[p.2.toNat]? = some cs[p.2.toNat] := List.getElem?_eq_getElem vl
        generalize cs[p.2.toNat] = e at hd
        obtain ⟨t2, ht2, k2⟩ := pairedGet prs2 hd
        have a2 : atI (rs.map V.ref) p.2 = some (.ref t2) := ref_at (by omega) ht2
        obtain ⟨b2, _, g2⟩ := ok.2 e (List.mem_of_getElem? hd)
        obtain ⟨m2, tb2, e2, _, _⟩ := id k2
        have ds := dif_small g1 g2
        rw [q3_two hc hd] at es
        refine iteF ⟨_, rfl, _, rfl, r, _, _, _, rfl, rfl, SqT.of hrp, rfl, a, _, _, _, rfl, rfl, SqL.of ha2, a2, ?_⟩
        refine ⟨_, rfl, _, rfl, t1, _, _, _, rfl, rfl, SqT.of e1, rfl, _, rfl, t2, _, _, _, rfl, rfl, SqT.of e2, rfl, _, _, rfl, rfl, _, rfl, t1, _, _, _, rfl, rfl, SqT.of e1, rfl, _, rfl, t2, _, _, _, rfl, rfl, SqT.of e2, rfl, _, _, rfl, rfl, _, _, rfl, rfl, ⟨big_small ds, big_small ds⟩, _, _, rfl, rfl, ?_⟩
        refine ⟨_, rfl, _, rfl, r, _, _, _, rfl, rfl, SqT.of hrp, rfl, _, _, rfl, rfl, _, rfl, r, _, _, _, rfl, rfl, SqT.of hrp, rfl, _, _, rfl, rfl, _, _, rfl, rfl, ?_⟩
        refine ⟨_, rfl, t1, _, _, _, rfl, rfl, SqT.of e1, rfl, c.2.bs, rfl, by omega, rfl, _, rfl, ?_⟩
        rw [p_none]
        have fin : ∀ y : Int, (y = if alikeD c.2.bs e.2.bs = true then 1 else 0) → [some (V.ref a), some (.ref l), some (.int (leastD cs)), some (.int ((sum3 cs (ps.take i)).1 + (c.2.pts - e.2.pts) * (c.2.pts - e.2.pts))), some (.int ((sum3 cs (ps.take i)).2.1 + y)), some (.int ((sum3 cs (ps.take i)).2.2 + p.2 - p.1 - 1)), some (.ref r), some (.ref t1), some (.ref t2)] = [some (V.ref a), some (.ref l), some (.int (leastD cs)), some (.int (sum3 cs (ps.take (i + 1))).1), some (.int (sum3 cs (ps.take (i + 1))).2.1), some (.int (sum3 cs (ps.take (i + 1))).2.2), some (.ref r), some (.ref t1), some (.ref t2)] := fun y hy => by
          rw [es, hy]
          show _ = [some (V.ref a), some (.ref l), some (.int (leastD cs)), some (.int ((sum3 cs (ps.take i)).1 + (c.2.pts - e.2.pts) * (c.2.pts - e.2.pts))), some (.int ((sum3 cs (ps.take i)).2.1 + if alikeD c.2.bs e.2.bs = true then 1 else 0)), some (.int ((sum3 cs (ps.take i)).2.2 + (p.2 - p.1 - 1))), some (.ref r), some (.ref t1), some (.ref t2)]
          rw [show (sum3 cs (ps.take i)).2.2 + p.2 - p.1 - 1 = (sum3 cs (ps.take i)).2.2 + (p.2 - p.1 - 1) by omega]
        by_cases h1 : wishD c.2.bs = none
        · have al : alikeD c.2.bs e.2.bs = false := by unfold alikeD; rw [decide_eq_true h1]; rfl
          rw [decide_eq_true h1]
          refine iteF (iteF ⟨some (.ref r), some (.ref t1), some (.ref t2), ?_, rfl⟩)
          have := fin 0 (by rw [al]; rfl)
          rw [Int.add_zero] at this
          exact this
        · rw [decide_eq_false h1]
          refine iteT ⟨_, rfl, t1, _, _, _, rfl, rfl, SqT.of e1, rfl, c.2.bs, rfl, by omega, _, rfl, t2, _, _, _, rfl, rfl, SqT.of e2, rfl, e.2.bs, rfl, by omega, rfl, _, rfl, ?_⟩
          rw [w_w]
          by_cases h3 : wishD c.2.bs = wishD e.2.bs
          · have al : alikeD c.2.bs e.2.bs = true := by unfold alikeD; rw [decide_eq_false h1, decide_eq_true h3]; rfl
            rw [decide_eq_true h3]
            exact iteT ⟨_, rfl, _, _, rfl, rfl, ⟨some (.ref r), some (.ref t1), some (.ref t2), fin 1 (by rw [al]; rfl), rfl⟩⟩
          · have al : alikeD c.2.bs e.2.bs = false := by unfold alikeD; rw [decide_eq_false h1, decide_eq_false h3]; rfl
            rw [decide_eq_false h3]
            refine iteF ⟨some (.ref r), some (.ref t1), some (.ref t2), ?_, rfl⟩
            have := fin 0 (by rw [al]; rfl)
            rw [Int.add_zero] at this
            exact this
    · rintro σ H3 ⟨x6, x7, x8, rfl, rfl⟩
      rw [List.length_map, lqs, List.take_length]
      exact ⟨_, rfl, _, rfl, _, rfl, (by show 3 ≤ sizeLine; decide), fun t ht => q t _ (s2.trans (same_new ht)) upd_same⟩
end
section
variable {P : Program} {w : World} {K : PySem.W.Frag} {mg : Str → Option Value} {base : Heap}
seal PA PE PS PSs PT PW
theorem di_eqv : ∀ xs ys : List Int, xs.length = ys.length → PyData.eqv (di xs) (di ys) = decide (xs = ys)
  | [], [], _ => rfl
  | [], _ :: _, h => by cases h
  | _ :: _, [], h => by cases h
  | x :: xs, y :: ys, h => by
    have ih := di_eqv xs ys (by simpa using h)
    have e : PyData.eqv (di (x :: xs)) (di (y :: ys)) = ((x == y) && PyData.eqv (di xs) (di ys)) := by
      simp [di, PyData.eqv, PyData.eqvAll]
    rw [e, ih]
    by_cases h1 : x = y
    · subst h1; simp
    · simp [h1]
theorem bl_bl (x y : Bool) : decide (V.bl x = V.bl y) = (x == y) := by cases x <;> cases y <;> decide
def spLaw (K : PySem.W.Frag) : Sp := fun vs H Q _ => ∃ (a : Addr) (ns : List Int), vs = [.ref a] ∧ SqL K H a (ns.map V.int) ∧ ns.length ≤ 63 ∧ ∀ H', Q (.bl true) H'
theorem scLaw : FnScope ["_law_script", "_law_many", "_law_cards", "_law_order_here", "_law_one", "_law_k", "_law_j", "_law_kept", "_law_other", "_law_book", "_law_row", "_law_left", "_law_right", "_law_mine", "_law_theirs"] ["_law_script"] (defScope sLaw) := ⟨rfl, rfl, rfl, by decide +kernel, rfl, by decide +kernel, by decide +kernel⟩
theorem okLaw (d : Df K mg "law" sLaw ["_law_script"]) (dC : Df K mg "_law_cell_at" sCell ["_law_script", "_law_k"]) (dM : Df K mg "_law_mix" sMix ["_law_seed", "_law_k"]) (dNm : Df K mg "_law_names" sNm ["_law_cell", "_law_many"]) (dO : Df K mg "_law_order" sOrd ["_law_seed", "_law_many"]) (dLn : Df K mg "_law_lean" sLn ["_law_sides"]) (dBd : Df K mg "_law_bound" sBd ["_law_sides"]) (dWs : Df K mg "_law_wish" sWs ["_law_sides"]) (dCs : Df K mg "_law_cards_by" sCs ["_law_script", "_law_many"]) (dPr : Df K mg "_law_pairs_by" sPr ["_law_order_here", "_law_many"]) (dTr : Df K mg "_law_three" sTr ["_law_cards", "_law_pairs"]) (dSu : Df K mg "_law_sum" sSu ["_law_book", "_law_pairs"])
    (dWo : Df K mg "worries" sWo ["cards"]) (dWy : Df K mg "worry_at" sWy ["cards", "u", "v"]) (dCw : Df K mg "chair_worry" sCw ["cards", "u"]) (dMm : Df K mg "may_meet" sMm ["one", "other"]) (dWa : Df K mg "wish_alike" sWa ["one", "other"]) (dPw : Df K mg "wish" sPw ["sides"]) (dPb : Df K mg "bound" sPb ["sides"]) (dPl : Df K mg "lean" sPl ["sides"]) (T : BiR mg) : FnOk P w K mg base CX0 7 d.f d.fd ["_law_script"] (spLaw K) := by
  have GC : FnOk P w K mg base CX0 1 dC.f dC.fd ["_law_script", "_law_k"] (spCell K) := okCell dC T
  have GO : FnOk P w K mg base CX0 2 dO.f dO.fd ["_law_seed", "_law_many"] spOrd := okOrd dO dM T
  have GCs : FnOk P w K mg base CX0 2 dCs.f dCs.fd ["_law_script", "_law_many"] (spCs K) := okCs dCs dC dM dNm T
  have GPr : FnOk P w K mg base CX0 1 dPr.f dPr.fd ["_law_order_here", "_law_many"] spPr := okPr dPr T
  have GTr : FnOk P w K mg base CX0 4 dTr.f dTr.fd ["_law_cards", "_law_pairs"] spTr := okTr dTr dWs dBd dLn T
  have GSu : FnOk P w K mg base CX0 1 dSu.f dSu.fd ["_law_book", "_law_pairs"] spSu := okSu dSu
  have GWo : FnOk P w K mg base CX0 6 dWo.f dWo.fd ["cards"] spWo := okWo dWo dWy dCw dMm dWa dPw dPb dPl T
  refine d.F.ok scLaw (fun vs H Q E h => ?_) (fun cdv A outer s H vs Q E hr h => ?_)
  · obtain ⟨_, _, rfl, _⟩ := h
    rfl
  · obtain ⟨a, ns, rfl, hS, hlen, q⟩ := h
    have hu64 := hr.units
    have hu := hu_of hr
    refine ⟨_, (pss_cons (ps_set (i := 1) scLaw.nd rfl (by first | exact Or.inl rfl | exact Or.inr rfl) (pe_op op_add pe_int (pe_op op_mod (pe_call GC (hr.mono (by decide)) (by rfl) dC.m dC.F.kp dC.b .nil pass0 (pa_cons (pv 0) (pa_cons pe_int pa_nil))) pe_int)))
      (pss_cons (ps_set (i := 2) scLaw.nd rfl (by first | exact Or.inl rfl | exact Or.inr rfl) (pe_call GCs (hr.mono (by decide)) (by rfl) dCs.m dCs.F.kp dCs.b .nil pass0 (pa_cons (pv 0) (pa_cons (pv 1) pa_nil))))
      (pss_cons (ps_set (i := 3) scLaw.nd rfl (by first | exact Or.inl rfl | exact Or.inr rfl) (pe_call GO (hr.mono (by decide)) (by rfl) dO.m dO.F.kp dO.b .nil pass0 (pa_cons (pe_call GC (hr.mono (by decide)) (by rfl) dC.m dC.F.kp dC.b .nil pass0 (pa_cons (pv 0) (pa_cons pe_int pa_nil))) (pa_cons (pv 1) pa_nil))))
      (pss_cons (ps_set (i := 4) scLaw.nd rfl (by first | exact Or.inl rfl | exact Or.inr rfl) (pe_call GPr (hr.mono (by decide)) (by rfl) dPr.m dPr.F.kp dPr.b .nil pass0 (pa_cons (pv 3) (pa_cons (pv 1) pa_nil))))
      (pss_cons (ps_if (pt_cmpR op_eq (pe_op op_mod (pe_call GC (hr.mono (by decide)) (by rfl) dC.m dC.F.kp dC.b .nil pass0 (pa_cons (pv 0) (pa_cons pe_int pa_nil))) pe_int) pe_int (nomark _)) (pss_one (ps_set (i := 3) scLaw.nd rfl (by first | exact Or.inl rfl | exact Or.inr rfl) (pe_call GO (hr.mono (by decide)) (by rfl) dO.m dO.F.kp dO.b .nil pass0 (pa_cons (pe_call GC (hr.mono (by decide)) (by rfl) dC.m dC.F.kp dC.b .nil pass0 (pa_cons (pv 0) (pa_cons pe_int pa_nil))) (pa_cons (pv 1) pa_nil))))) (pss_cons (ps_set (i := 5) scLaw.nd rfl (by first | exact Or.inl rfl | exact Or.inr rfl) (pe_op op_mod (pe_call GC (hr.mono (by decide)) (by rfl) dC.m dC.F.kp dC.b .nil pass0 (pa_cons (pv 0) (pa_cons pe_int pa_nil))) (pv 1)))
      (pss_cons (ps_set (i := 6) scLaw.nd rfl (by first | exact Or.inl rfl | exact Or.inr rfl) (pe_op op_mod (pe_op op_fdiv (pe_call GC (hr.mono (by decide)) (by rfl) dC.m dC.F.kp dC.b .nil pass0 (pa_cons (pv 0) (pa_cons pe_int pa_nil))) pe_int) (pv 1)))
      (pss_cons (ps_set (i := 7) scLaw.nd rfl (by first | exact Or.inl rfl | exact Or.inr rfl) (pe_ix ix_list (pv 3) (pv 5) (fun _ _ => rfl)))
      (pss_cons (ps_asg (pe_ix ix_list (pv 3) (pv 6) (fun _ _ => rfl)) (pg_sub (pv 3) (pv 5) set_list))
      (pss_one (ps_asg (pv 7) (pg_sub (pv 3) (pv 6) set_list))))))))
      (pss_cons (ps_set (i := 8) scLaw.nd rfl (by first | exact Or.inl rfl | exact Or.inr rfl) (pe_call GPr (hr.mono (by decide)) (by rfl) dPr.m dPr.F.kp dPr.b .nil pass0 (pa_cons (pv 3) (pa_cons (pv 1) pa_nil))))
      (pss_cons (ps_set (i := 9) scLaw.nd rfl (by first | exact Or.inl rfl | exact Or.inr rfl) pe_dnewT)
      (pss_cons (ps_for PassesOwn.never rfl (pi_list (pe_call GWo (hr.mono (by decide)) (by rfl) dWo.m dWo.F.kp dWo.b .nil pass0 (pa_cons (pe_callTy call_list_of (by rfl) T.t_list boot_list (pa_cons (pv 2) pa_nil)) pa_nil))) (pg_name (i := 10) scLaw.nd rfl (by first | exact Or.inl rfl | exact Or.inr rfl)) (pss_one (ps_dput hu (pv 9) (pe_tup (pa_cons (pe_ix ix_tup (pv 10) pe_int (fun _ _ => rfl)) (pa_cons (pe_ix ix_tup (pv 10) pe_int (fun _ _ => rfl)) pa_nil))) (pe_ix ix_tup (pv 10) pe_int (fun _ _ => rfl)) rfl)))
      (pss_cons (ps_set (i := 11) scLaw.nd rfl (by first | exact Or.inl rfl | exact Or.inr rfl) (pe_call GSu (hr.mono (by decide)) (by rfl) dSu.m dSu.F.kp dSu.b .nil pass0 (pa_cons (pv 9) (pa_cons (pv 4) pa_nil))))
      (pss_cons (ps_set (i := 12) scLaw.nd rfl (by first | exact Or.inl rfl | exact Or.inr rfl) (pe_call GSu (hr.mono (by decide)) (by rfl) dSu.m dSu.F.kp dSu.b .nil pass0 (pa_cons (pv 9) (pa_cons (pv 8) pa_nil))))
      (pss_cons (ps_if (PW.pt (pw_or (pt_cmpR op_isN (pv 11) pe_non (nomark _)) (pw_or1 (pt_cmpR op_isN (pv 12) pe_non (nomark _))))) (pss_one (ps_ret pe_bl)) pss_nil)
      (pss_cons (ps_set (i := 13) scLaw.nd rfl (by first | exact Or.inl rfl | exact Or.inr rfl) (pe_call GTr (hr.mono (by decide)) (by rfl) dTr.m dTr.F.kp dTr.b .nil pass0 (pa_cons (pv 2) (pa_cons (pv 4) pa_nil))))
      (pss_cons (ps_set (i := 14) scLaw.nd rfl (by first | exact Or.inl rfl | exact Or.inr rfl) (pe_call GTr (hr.mono (by decide)) (by rfl) dTr.m dTr.F.kp dTr.b .nil pass0 (pa_cons (pv 2) (pa_cons (pv 8) pa_nil))))
      (pss_one (ps_ret (pe_and (pe_cmpR op_eq (pe_cmpR op_lt (pv 11) (pv 12) (nomark _)) (pe_cmpR (op_ltL hu64) (pv 13) (pv 14) (nomark _)) (nomark _)) (pe_one (pe_cmpR op_eq (pe_cmpR op_eq (pv 11) (pv 12) (nomark _)) (pe_cmpR (op_eqD hu64) (pv 13) (pv 14) (nomark _)) (nomark _))))))))))))))))))), ?_⟩
    refine ⟨_, rfl, a, ns, _, rfl, hS, (by decide), fun c0 => ⟨_, _, rfl, rfl, (by show (0 : Int) < 39; decide), _, _, rfl, rfl, ?_⟩⟩
    obtain ⟨m, hm⟩ : ∃ m : Nat, (m : Int) = 2 + c0 % 39 := ⟨(2 + c0 % 39).toNat, by omega⟩
    have m2 : 2 ≤ m := by omega
    have m40 : m ≤ 40 := by omega
    dsimp only
    rw [← hm]
    clear hm
    refine ⟨_, rfl, _, rfl, a, ns, (m : Int), rfl, hS, by omega, by omega, fun lc rs cs H1 s1 hrs prs lcs oks => ?_⟩
    have lm : cs.length = m := by rw [lcs]; omega
    have ok : OkCs cs := ⟨by omega, fun c hc => (oks c hc).2.2.2.2⟩
    have am : AllM cs := ⟨fun c hc => (oks c hc).2.2.2.1, fun c hc d hd => cm_of (oks c hc) (oks d hd)⟩
    have hS1 := s1.seq hS
    refine ⟨_, rfl, a, ns, _, rfl, hS1, (by decide), fun c2 => ⟨_, rfl, c2, (m : Int), rfl, by omega, by omega, fun lo os H2 hlo s2 ho po => ?_⟩⟩
    rw [show (m : Int).toNat = m by omega] at po
    refine ⟨_, rfl, _, rfl, lo, os, m, rfl, ho, m2, m40, po, fun l1 ps1 H3 s3 f1 pl1 lp1 okp1 => ?_⟩
    have S3 := s2.trans s3
    have hS3 := S3.seq hS1
    have ho3 := s3 _ _ ho
    have hne1 : l1 ≠ lo := fun e => by rw [e, ho] at f1; cases f1
    obtain ⟨r1, hr1, pr1⟩ := id pl1
    try dsimp only
    refine any_ifEH (fun σ' H' => ∃ (lo' : Addr) (os' : List Int) (x5 x6 x7 : Option V), σ' = [some (.ref a), some (.int (m : Int)), some (.ref lc), some (.ref lo'), some (.ref l1), x5, x6, x7, none, none, none, none, none, none, none] ∧ Same H1 H' ∧ PL H' l1 ps1 ∧ H' lo' = some (.lst (os'.map V.int)) ∧ os'.Perm (bsN m)) (fun Q q => ⟨_, rfl, a, ns, _, rfl, hS3, (by decide), fun c4 => ⟨_, _, rfl, rfl, (by show (0 : Int) < 2; decide), rfl, _, rfl, q _⟩⟩) (fun D' k => ⟨_, rfl, a, ns, _, rfl, hS3, (by decide), fun c3 => ⟨_, rfl, c3, (m : Int), rfl, by omega, by omega, fun lo' os' H4 hlo' s4 ho' po' => k _ _ ⟨lo', os', _, _, _, rfl, S3.trans s4, pl1.same s4, ho', by rw [show (m : Int).toNat = m by omega] at po'; exact po'⟩⟩⟩) (fun D' k => ?_) ?_
    · refine ⟨_, rfl, a, ns, _, rfl, hS3, (by decide), fun c3 => ⟨_, rfl, _, _, rfl, rfl, by show (0 : Int) < (m : Int); omega, ?_⟩⟩
      refine ⟨_, rfl, a, ns, _, rfl, hS3, (by decide), fun c4 => ⟨_, _, rfl, rfl, ⟨by decide, by decide⟩, _, rfl, _, _, rfl, rfl, by show (0 : Int) < (m : Int); omega, ?_⟩⟩
      have k0 := Int.emod_nonneg c3 (show (m : Int) ≠ 0 by omega)
      have k1 := Int.emod_lt_of_pos c3 (show (0 : Int) < (m : Int) by omega)
      have j0 := Int.emod_nonneg (c4 / 2) (show (m : Int) ≠ 0 by omega)
      have j1 := Int.emod_lt_of_pos (c4 / 2) (show (0 : Int) < (m : Int) by omega)
      dsimp only
      generalize c3 % (m : Int) = kk' at k0 k1 ⊢
      generalize c4 / 2 % (m : Int) = jj at j0 j1 ⊢
      have los : os.length = m := by rw [po.length_eq]; unfold bsN; rw [List.length_map, List.length_range]
      have lk : kk'.toNat < os.length := by omega
      have lj : jj.toNat < os.length := by omega
      have at1 := int_at (zs := os) k0 (List.getElem?_eq_getElem lk)
      have at2 := int_at (zs := os) j0 (List.getElem?_eq_getElem lj)
      have ix1 : ixN (os.map V.int).length kk' = some kk'.toNat := by unfold ixN; rw [if_pos k0, if_pos (by rw [List.length_map]; omega)]
      have ix2 : ixN ((os.map V.int).set kk'.toNat (V.int os[jj.toNat])).length jj = some jj.toNat := by unfold ixN; rw [if_pos j0, if_pos (by rw [List.length_set, List.length_map]; omega)]
      refine ⟨_, rfl, _, rfl, lo, _, _, _, rfl, rfl, SqL.of ho3, at1, ?_⟩
      refine ⟨_, rfl, _, rfl, lo, _, _, _, rfl, rfl, SqL.of ho3, at2, _, rfl, _, rfl, lo, _, kk', _, rfl, rfl, ho3, ix1, ?_⟩
      refine ⟨_, rfl, _, rfl, _, rfl, lo, _, jj, _, rfl, rfl, upd_same, ix2, ?_⟩
      refine k _ _ ⟨lo, (os.set kk'.toNat os[jj.toNat]).set jj.toNat os[kk'.toNat], _, _, _, rfl, same_upd (same_upd S3 hlo) hlo, ⟨r1, ?_, ?_⟩, by rw [upd_same, List.map_set, List.map_set], (List.set_set_perm lk lj).trans po⟩
      · rw [upd_ne hne1, upd_ne hne1]; exact hr1
      · exact Prs.upd (Prs.upd pr1 (lst_ne_tp ho3)) (lst_ne_tp upd_same)
    rintro _ H4 ⟨lo', os', x5, x6, x7, rfl, S4, pl4, ho4, po4⟩
    refine ⟨_, rfl, _, rfl, lo', os', m, rfl, ho4, m2, m40, po4, fun l2 ps2 H5 s5 f2 pl2 lp2 okp2 => ?_⟩
    have S5 := S4.trans s5
    refine fun b hb => ?_
    have s6 := same_new (o := .dT []) hb
    have S6 := S5.trans s6
    have hb6 : upd H5 b (.dT []) b = some (.dT []) := upd_same
    have pl16 := (pl4.same s5).same s6
    have pl26 := pl2.same s6
    generalize upd H5 b (.dT []) = H6 at *
    have nb1 : ∀ {x : Addr} {o : HO}, H5 x = some o → x ≠ b := fun e z => by rw [z, hb] at e; cases e
    refine ⟨_, rfl, lc, _, rfl, .inl (SqL.of (S6 _ _ hrs)), fun lh hlh => ?_⟩
    have s7 := same_new (o := .lst (rs.map V.ref)) hlh
    have h7 : upd H6 lh (.lst (rs.map V.ref)) lh = some (.lst (rs.map V.ref)) := upd_same
    generalize upd H6 lh (.lst (rs.map V.ref)) = H7 at *
    have S7 := S6.trans s7
    refine ⟨lh, rs, cs, rfl, h7, Paired.mapP prs fun _ _ z => CardX.same S7 z, ok, fun lw0 H8 s8 f8 tl8 => ?_⟩
    obtain ⟨es, hes, pes⟩ := tl8
    have les : es.length = (worD cs cs.length).length := Trs.length pes
    have lw : (worD cs cs.length).length ≤ 1600 := Nat.le_trans (worD_len cs _ (Nat.le_refl _)) (Nat.le_trans (Nat.mul_le_mul (show cs.length ≤ 40 by omega) (show cs.length ≤ 40 by omega)) (by decide))
    have hb8 := s8 _ _ (s7 _ _ hb6)
    refine ⟨lw0, rfl, ⟨_, SqL.of hes⟩, for_list (xs := es.map V.ref) (fun i σ H9 => ∃ (x10 : Option V) (kvs : List (List Key × V)), σ = [some (.ref a), some (.int (m : Int)), some (.ref lc), some (.ref lo'), some (.ref l1), x5, x6, x7, some (.ref l2), some (.ref b), x10, none, none, none, none] ∧ (∀ x o, H8 x = some o → x ≠ b → H9 x = some o) ∧ H9 b = some (.dT kvs) ∧ Bk cs kvs ∧ kvs.length ≤ i ∧ ∀ t ∈ (worD cs cs.length).take i, (valV kvs (kk t.1 t.2.1)).isSome = true)
      ⟨_, [], rfl, fun _ _ e _ => e, hb8, ⟨fun _ _ _ h => by cases h⟩, Nat.le_refl _, fun t ht => by cases ht⟩ ?_ ?_ ?_⟩
    · rintro i σ H9 hi ⟨_, _, rfl, s9, _⟩
      exact SqL.of (s9 _ _ hes (ne_of hes hb8 (by intro z; cases z)))
    · rintro i x σ H9 hx ⟨x10, kvs, rfl, s9, h9, bk, lk, has⟩
      rw [List.getElem?_map] at hx
      obtain ⟨r, hr', rfl⟩ := Option.map_eq_some_iff.mp hx
      obtain ⟨t, ht, hrt⟩ := pairedGetL pes hr'
      have hrt : H8 r = some (.tup [.int t.1, .int t.2.1, .int t.2.2]) := hrt
      have hr9 := s9 _ _ hrt (ne_of hrt hb8 (by intro z; cases z))
      have il : i < es.length := (List.getElem?_eq_some_iff.mp hr').1
      have ew := mem_wor (Nat.le_refl _) (List.mem_of_getElem? ht)
      refine ⟨_, rfl, r, _, _, _, rfl, rfl, SqT.of hr9, rfl, _, rfl, _, rfl, r, _, _, _, rfl, rfl, SqT.of hr9, rfl, _, rfl, r, _, _, _, rfl, rfl, SqT.of hr9, rfl, (by show 2 ≤ sizeLine; decide), fun kt hkt => ?_⟩
      have sA := same_new (o := .tup [.int t.1, .int t.2.1]) hkt
      have hA := sA _ _ h9
      refine ⟨b, _, rfl, DPut.t (k := kk t.1 t.2.1) hA upd_same (small5 (by omega)), ?_⟩
      refine ⟨_, putK kvs (kk t.1 t.2.1) (.int t.2.2), rfl, fun x o e n => by rw [upd_ne n]; exact sA _ _ (s9 x o e n), upd_same, ?_, Nat.le_trans (putK_few1 _ _ _) (by omega), fun u hu' => ?_⟩
      · rw [ew]; exact bk_put bk _ _
      · rw [List.take_add_one, ht, Option.toList_some] at hu'
        rcases List.mem_append.mp hu' with z | z
        · exact put_has (.inl (has u z))
        · rw [List.mem_singleton.mp z]; exact put_has (.inr rfl)
    rintro σ H9 ⟨x10, kvs, rfl, s9, h9, bk, _, has⟩
    rw [List.length_map, les, List.take_length] at has
    have keep : ∀ {x : Addr} {o : HO}, H6 x = some o → x ≠ b → H9 x = some o := fun e n => s9 _ _ (s8 _ _ (s7 _ _ e)) n
    have plk : ∀ {l : Addr} {ps : List (Int × Int)}, PL H6 l ps → PL H9 l ps := fun {l ps} h => by
      obtain ⟨gs, hgs, pgs⟩ := h
      exact ⟨gs, keep hgs (ne_of hgs hb6 (by intro z; cases z)), Paired.mapP pgs fun r p z => keep z (ne_of z hb6 (by intro z; cases z))⟩
    have P1 := plk pl16
    have P2 := plk pl26
    have has2 : ∀ {ps : List (Int × Int)}, (∀ p ∈ ps, OkPr m p) → ∀ p ∈ ps, (valV kvs (kk p.1 p.2)).isSome = true := fun h p hp => by
      obtain ⟨t, ht, e1, e2⟩ := wor_has am (p := p) (by rw [lm]; exact h p hp)
      have := has t ht
      rw [e1, e2] at this; exact this
    refine ⟨_, rfl, _, rfl, b, l1, kvs, cs, ps1, rfl, h9, P1, bk, has2 okp1, ?_⟩
    refine ⟨_, rfl, _, rfl, b, l2, kvs, cs, ps2, rfl, h9, P2, bk, has2 okp2, ?_⟩
    refine ⟨_, rfl, rfl, _, rfl, iteDn (fun z => by cases z) ⟨_, rfl, rfl, _, rfl, iteDn (fun z => by cases z) ?_⟩⟩
    have hrs9 : H9 lc = some (.lst (rs.map V.ref)) := keep (S6 _ _ hrs) (ne_of (S6 _ _ hrs) hb6 (by intro z; cases z))
    have prs9 : Paired (fun r c => CardX H9 r c.1 c.2) rs cs := Paired.mapP prs fun r c z => by
      obtain ⟨mm, tb, e1, e2, e3⟩ := z.same S6
      exact ⟨mm, tb, keep e1 (ne_of e1 hb6 (by intro z; cases z)), keep e2 (ne_of e2 hb6 (by intro z; cases z)), keep e3 (ne_of e3 hb6 (by intro z; cases z))⟩
    refine ⟨_, rfl, _, rfl, lc, l1, rs, cs, ps1, rfl, hrs9, prs9, ok, by omega, P1, fun p hp => by rw [lm]; exact okp1 p hp, fun t1 HA sA hA => ?_⟩
    refine ⟨_, rfl, _, rfl, lc, l2, rs, cs, ps2, rfl, sA _ _ hrs9, Paired.mapP prs9 fun _ _ z => CardX.same sA z, ok, by omega, P2.same sA, fun p hp => by rw [lm]; exact okp2 p hp, fun t2 HB sB hB => ?_⟩
    have hA' := sB _ _ hA
    have b1 := sum3_bnd (cs := cs) (by omega) (ps := ps1) (b := (0, 0, 0)) (fun p hp => by rw [lm]; exact okp1 p hp) (Int.le_refl _) (Int.le_refl _)
    have b2 := sum3_bnd (cs := cs) (by omega) (ps := ps2) (b := (0, 0, 0)) (fun p hp => by rw [lm]; exact okp2 p hp) (Int.le_refl _) (Int.le_refl _)
    have b1 : 0 ≤ (sum3 cs ps1).2.1 ∧ (sum3 cs ps1).2.1 ≤ 0 + ps1.length ∧ 0 ≤ (sum3 cs ps1).2.2 ∧ (sum3 cs ps1).2.2 ≤ 0 + 40 * ps1.length := b1
    have b2 : 0 ≤ (sum3 cs ps2).2.1 ∧ (sum3 cs ps2).2.1 ≤ 0 + ps2.length ∧ 0 ≤ (sum3 cs ps2).2.2 ∧ (sum3 cs ps2).2.2 ≤ 0 + 40 * ps2.length := b2
    obtain ⟨x1, x2⟩ := lex_sum (a := sum3 cs ps1) (b := sum3 cs ps2) b1.1 (by omega) b1.2.2.1 (by omega) b2.1 (by omega) b2.2.2.1 (by omega)
    rw [← sum_eq, ← sum_eq] at x1 x2
    refine ⟨_, rfl, _, rfl, _, _, rfl, rfl, _, rfl, _, rfl, t1, t2, _, _, rfl, rfl, hA', hB, rfl, rfl, ?_⟩
    rw [bl_bl]
    refine ⟨_, rfl, ?_⟩
    rw [x1, beq_self_eq_true]
    refine iteT ⟨_, rfl, _, rfl, rfl, _, rfl, _, rfl, _, _, IL.rd hA', IL.rd hB, di_shaped _, di_shaped _, rfl, ?_⟩
    rw [bl_bl, int_dec, di_eqv [(sum3 cs ps1).1, (sum3 cs ps1).2.1, (sum3 cs ps1).2.2] [(sum3 cs ps2).1, (sum3 cs ps2).2.1, (sum3 cs ps2).2.2] rfl, x2, beq_self_eq_true]
    exact q _
end
theorem all_mk {l : PySem.W.OpenLaw} {w : World} {K : PySem.W.Frag} {h : Heap} {mg : Str → Option Value} {fa : Addr} (X : K.In h) (G : h.Ns mainGlobals mg) (hfa : mg "law" = some (.ref fa))
    {f0 : Addr} {od0 an0 : Option Addr} {sl0 : Array (Option Value)} {oc0 kV0 dc0 pm0 cd0 ct0 : Value}
    {f1 : Addr} {od1 an1 : Option Addr} {sl1 : Array (Option Value)} {oc1 kV1 dc1 pm1 cd1 ct1 : Value}
    {f2 : Addr} {od2 an2 : Option Addr} {sl2 : Array (Option Value)} {oc2 kV2 dc2 pm2 cd2 ct2 : Value}
    {f3 : Addr} {od3 an3 : Option Addr} {sl3 : Array (Option Value)} {oc3 kV3 dc3 pm3 cd3 ct3 : Value}
    {f4 : Addr} {od4 an4 : Option Addr} {sl4 : Array (Option Value)} {oc4 kV4 dc4 pm4 cd4 ct4 : Value}
    {f5 : Addr} {od5 an5 : Option Addr} {sl5 : Array (Option Value)} {oc5 kV5 dc5 pm5 cd5 ct5 : Value}
    {f6 : Addr} {od6 an6 : Option Addr} {sl6 : Array (Option Value)} {oc6 kV6 dc6 pm6 cd6 ct6 : Value}
    {f7 : Addr} {od7 an7 : Option Addr} {sl7 : Array (Option Value)} {oc7 kV7 dc7 pm7 cd7 ct7 : Value}
    {f8 : Addr} {od8 an8 : Option Addr} {sl8 : Array (Option Value)} {oc8 kV8 dc8 pm8 cd8 ct8 : Value}
    {f9 : Addr} {od9 an9 : Option Addr} {sl9 : Array (Option Value)} {oc9 kV9 dc9 pm9 cd9 ct9 : Value}
    {f10 : Addr} {od10 an10 : Option Addr} {sl10 : Array (Option Value)} {oc10 kV10 dc10 pm10 cd10 ct10 : Value}
    {f11 : Addr} {od11 an11 : Option Addr} {sl11 : Array (Option Value)} {oc11 kV11 dc11 pm11 cd11 ct11 : Value}
    {f12 : Addr} {od12 an12 : Option Addr} {sl12 : Array (Option Value)} {oc12 kV12 dc12 pm12 cd12 ct12 : Value}
    {f13 : Addr} {od13 an13 : Option Addr} {sl13 : Array (Option Value)} {oc13 kV13 dc13 pm13 cd13 ct13 : Value}
    {f14 : Addr} {od14 an14 : Option Addr} {sl14 : Array (Option Value)} {oc14 kV14 dc14 pm14 cd14 ct14 : Value}
    {f15 : Addr} {od15 an15 : Option Addr} {sl15 : Array (Option Value)} {oc15 kV15 dc15 pm15 cd15 ct15 : Value}
    {f16 : Addr} {od16 an16 : Option Addr} {sl16 : Array (Option Value)} {oc16 kV16 dc16 pm16 cd16 ct16 : Value}
    {f17 : Addr} {od17 an17 : Option Addr} {sl17 : Array (Option Value)} {oc17 kV17 dc17 pm17 cd17 ct17 : Value}
    {f18 : Addr} {od18 an18 : Option Addr} {sl18 : Array (Option Value)} {oc18 kV18 dc18 pm18 cd18 ct18 : Value}
    {f19 : Addr} {od19 an19 : Option Addr} {sl19 : Array (Option Value)} {oc19 kV19 dc19 pm19 cd19 ct19 : Value}
    (a0 : PySem.W.nsIn K mainGlobals "_law_cell_at" = some (some (.ref f0))) (l0 : K.lookup f0 = some ⟨oc0, od0, .func (PySem.W.fnOf "_law_cell_at" "_law_cell_at" (defArgs sCell) (defBody sCell) (defScope sCell) .none kV0 dc0 pm0 an0 cd0 ct0), sl0⟩) (c0 : PySem.W.codeIn K cd0 "_law_cell_at" = true) (k0 : PySem.W.keepIn K (.ref f0) = true)
    (a1 : PySem.W.nsIn K mainGlobals "_law_mix" = some (some (.ref f1))) (l1 : K.lookup f1 = some ⟨oc1, od1, .func (PySem.W.fnOf "_law_mix" "_law_mix" (defArgs sMix) (defBody sMix) (defScope sMix) .none kV1 dc1 pm1 an1 cd1 ct1), sl1⟩) (c1 : PySem.W.codeIn K cd1 "_law_mix" = true) (k1 : PySem.W.keepIn K (.ref f1) = true)
    (a2 : PySem.W.nsIn K mainGlobals "_law_names" = some (some (.ref f2))) (l2 : K.lookup f2 = some ⟨oc2, od2, .func (PySem.W.fnOf "_law_names" "_law_names" (defArgs sNm) (defBody sNm) (defScope sNm) .none kV2 dc2 pm2 an2 cd2 ct2), sl2⟩) (c2 : PySem.W.codeIn K cd2 "_law_names" = true) (k2 : PySem.W.keepIn K (.ref f2) = true)
    (a3 : PySem.W.nsIn K mainGlobals "_law_order" = some (some (.ref f3))) (l3 : K.lookup f3 = some ⟨oc3, od3, .func (PySem.W.fnOf "_law_order" "_law_order" (defArgs sOrd) (defBody sOrd) (defScope sOrd) .none kV3 dc3 pm3 an3 cd3 ct3), sl3⟩) (c3 : PySem.W.codeIn K cd3 "_law_order" = true) (k3 : PySem.W.keepIn K (.ref f3) = true)
    (a4 : PySem.W.nsIn K mainGlobals "_law_lean" = some (some (.ref f4))) (l4 : K.lookup f4 = some ⟨oc4, od4, .func (PySem.W.fnOf "_law_lean" "_law_lean" (defArgs sLn) (defBody sLn) (defScope sLn) .none kV4 dc4 pm4 an4 cd4 ct4), sl4⟩) (c4 : PySem.W.codeIn K cd4 "_law_lean" = true) (k4 : PySem.W.keepIn K (.ref f4) = true)
    (a5 : PySem.W.nsIn K mainGlobals "_law_bound" = some (some (.ref f5))) (l5 : K.lookup f5 = some ⟨oc5, od5, .func (PySem.W.fnOf "_law_bound" "_law_bound" (defArgs sBd) (defBody sBd) (defScope sBd) .none kV5 dc5 pm5 an5 cd5 ct5), sl5⟩) (c5 : PySem.W.codeIn K cd5 "_law_bound" = true) (k5 : PySem.W.keepIn K (.ref f5) = true)
    (a6 : PySem.W.nsIn K mainGlobals "_law_wish" = some (some (.ref f6))) (l6 : K.lookup f6 = some ⟨oc6, od6, .func (PySem.W.fnOf "_law_wish" "_law_wish" (defArgs sWs) (defBody sWs) (defScope sWs) .none kV6 dc6 pm6 an6 cd6 ct6), sl6⟩) (c6 : PySem.W.codeIn K cd6 "_law_wish" = true) (k6 : PySem.W.keepIn K (.ref f6) = true)
    (a7 : PySem.W.nsIn K mainGlobals "_law_cards_by" = some (some (.ref f7))) (l7 : K.lookup f7 = some ⟨oc7, od7, .func (PySem.W.fnOf "_law_cards_by" "_law_cards_by" (defArgs sCs) (defBody sCs) (defScope sCs) .none kV7 dc7 pm7 an7 cd7 ct7), sl7⟩) (c7 : PySem.W.codeIn K cd7 "_law_cards_by" = true) (k7 : PySem.W.keepIn K (.ref f7) = true)
    (a8 : PySem.W.nsIn K mainGlobals "_law_pairs_by" = some (some (.ref f8))) (l8 : K.lookup f8 = some ⟨oc8, od8, .func (PySem.W.fnOf "_law_pairs_by" "_law_pairs_by" (defArgs sPr) (defBody sPr) (defScope sPr) .none kV8 dc8 pm8 an8 cd8 ct8), sl8⟩) (c8 : PySem.W.codeIn K cd8 "_law_pairs_by" = true) (k8 : PySem.W.keepIn K (.ref f8) = true)
    (a9 : PySem.W.nsIn K mainGlobals "_law_three" = some (some (.ref f9))) (l9 : K.lookup f9 = some ⟨oc9, od9, .func (PySem.W.fnOf "_law_three" "_law_three" (defArgs sTr) (defBody sTr) (defScope sTr) .none kV9 dc9 pm9 an9 cd9 ct9), sl9⟩) (c9 : PySem.W.codeIn K cd9 "_law_three" = true) (k9 : PySem.W.keepIn K (.ref f9) = true)
    (a10 : PySem.W.nsIn K mainGlobals "_law_sum" = some (some (.ref f10))) (l10 : K.lookup f10 = some ⟨oc10, od10, .func (PySem.W.fnOf "_law_sum" "_law_sum" (defArgs sSu) (defBody sSu) (defScope sSu) .none kV10 dc10 pm10 an10 cd10 ct10), sl10⟩) (c10 : PySem.W.codeIn K cd10 "_law_sum" = true) (k10 : PySem.W.keepIn K (.ref f10) = true)
    (a11 : PySem.W.nsIn K mainGlobals "worries" = some (some (.ref f11))) (l11 : K.lookup f11 = some ⟨oc11, od11, .func (PySem.W.fnOf "worries" "worries" (defArgs sWo) (defBody sWo) (defScope sWo) .none kV11 dc11 pm11 an11 cd11 ct11), sl11⟩) (c11 : PySem.W.codeIn K cd11 "worries" = true) (k11 : PySem.W.keepIn K (.ref f11) = true)
    (a12 : PySem.W.nsIn K mainGlobals "worry_at" = some (some (.ref f12))) (l12 : K.lookup f12 = some ⟨oc12, od12, .func (PySem.W.fnOf "worry_at" "worry_at" (defArgs sWy) (defBody sWy) (defScope sWy) .none kV12 dc12 pm12 an12 cd12 ct12), sl12⟩) (c12 : PySem.W.codeIn K cd12 "worry_at" = true) (k12 : PySem.W.keepIn K (.ref f12) = true)
    (a13 : PySem.W.nsIn K mainGlobals "chair_worry" = some (some (.ref f13))) (l13 : K.lookup f13 = some ⟨oc13, od13, .func (PySem.W.fnOf "chair_worry" "chair_worry" (defArgs sCw) (defBody sCw) (defScope sCw) .none kV13 dc13 pm13 an13 cd13 ct13), sl13⟩) (c13 : PySem.W.codeIn K cd13 "chair_worry" = true) (k13 : PySem.W.keepIn K (.ref f13) = true)
    (a14 : PySem.W.nsIn K mainGlobals "may_meet" = some (some (.ref f14))) (l14 : K.lookup f14 = some ⟨oc14, od14, .func (PySem.W.fnOf "may_meet" "may_meet" (defArgs sMm) (defBody sMm) (defScope sMm) .none kV14 dc14 pm14 an14 cd14 ct14), sl14⟩) (c14 : PySem.W.codeIn K cd14 "may_meet" = true) (k14 : PySem.W.keepIn K (.ref f14) = true)
    (a15 : PySem.W.nsIn K mainGlobals "wish_alike" = some (some (.ref f15))) (l15 : K.lookup f15 = some ⟨oc15, od15, .func (PySem.W.fnOf "wish_alike" "wish_alike" (defArgs sWa) (defBody sWa) (defScope sWa) .none kV15 dc15 pm15 an15 cd15 ct15), sl15⟩) (c15 : PySem.W.codeIn K cd15 "wish_alike" = true) (k15 : PySem.W.keepIn K (.ref f15) = true)
    (a16 : PySem.W.nsIn K mainGlobals "wish" = some (some (.ref f16))) (l16 : K.lookup f16 = some ⟨oc16, od16, .func (PySem.W.fnOf "wish" "wish" (defArgs sPw) (defBody sPw) (defScope sPw) .none kV16 dc16 pm16 an16 cd16 ct16), sl16⟩) (c16 : PySem.W.codeIn K cd16 "wish" = true) (k16 : PySem.W.keepIn K (.ref f16) = true)
    (a17 : PySem.W.nsIn K mainGlobals "bound" = some (some (.ref f17))) (l17 : K.lookup f17 = some ⟨oc17, od17, .func (PySem.W.fnOf "bound" "bound" (defArgs sPb) (defBody sPb) (defScope sPb) .none kV17 dc17 pm17 an17 cd17 ct17), sl17⟩) (c17 : PySem.W.codeIn K cd17 "bound" = true) (k17 : PySem.W.keepIn K (.ref f17) = true)
    (a18 : PySem.W.nsIn K mainGlobals "lean" = some (some (.ref f18))) (l18 : K.lookup f18 = some ⟨oc18, od18, .func (PySem.W.fnOf "lean" "lean" (defArgs sPl) (defBody sPl) (defScope sPl) .none kV18 dc18 pm18 an18 cd18 ct18), sl18⟩) (c18 : PySem.W.codeIn K cd18 "lean" = true) (k18 : PySem.W.keepIn K (.ref f18) = true)
    (a19 : PySem.W.nsIn K mainGlobals "law" = some (some (.ref f19))) (l19 : K.lookup f19 = some ⟨oc19, od19, .func (PySem.W.fnOf "law" "law" (defArgs sLaw) (defBody sLaw) (defScope sLaw) .none kV19 dc19 pm19 an19 cd19 ct19), sl19⟩) (c19 : PySem.W.codeIn K cd19 "law" = true) (k19 : PySem.W.keepIn K (.ref f19) = true)
    (z0 : PySem.W.nsIn K mainGlobals "len" = some none)
    (z1 : PySem.W.nsIn K mainGlobals "range" = some none)
    (z2 : PySem.W.nsIn K mainGlobals "min" = some none)
    (z3 : PySem.W.nsIn K mainGlobals "max" = some none)
    (z4 : PySem.W.nsIn K mainGlobals "list" = some none)
    (z5 : PySem.W.nsIn K mainGlobals "int" = some none)
    (z6 : PySem.W.nsIn K mainGlobals "tuple" = some none)
    : ∃ fd : FuncData, (∀ (s : Shared) (v : Value), BindsTo s fd ⟨[v], []⟩ [("_law_script", v)]) ∧ ∀ base : Heap, K.In base → base.Ns mainGlobals mg → FnOk l.prog w K mg base CX0 7 fa fd ["_law_script"] (spLaw K) := by
  have e := hfa.symm.trans (PySem.W.mg_of X G a19)
  cases e
  have T : BiR mg := ⟨PySem.W.mg_none_of X G z0, PySem.W.mg_none_of X G z1, PySem.W.mg_none_of X G z2, PySem.W.mg_none_of X G z3, PySem.W.mg_none_of X G z4, PySem.W.mg_none_of X G z5, PySem.W.mg_none_of X G z6⟩
  let dC : Df K mg "_law_cell_at" sCell ["_law_script", "_law_k"] := df_mk X G a0 l0 c0 k0 (fun _ _ _ _ _ _ us hl => match us, hl with | [_, _], _ => rfl)
  let dM : Df K mg "_law_mix" sMix ["_law_seed", "_law_k"] := df_mk X G a1 l1 c1 k1 (fun _ _ _ _ _ _ us hl => match us, hl with | [_, _], _ => rfl)
  let dNm : Df K mg "_law_names" sNm ["_law_cell", "_law_many"] := df_mk X G a2 l2 c2 k2 (fun _ _ _ _ _ _ us hl => match us, hl with | [_, _], _ => rfl)
  let dO : Df K mg "_law_order" sOrd ["_law_seed", "_law_many"] := df_mk X G a3 l3 c3 k3 (fun _ _ _ _ _ _ us hl => match us, hl with | [_, _], _ => rfl)
  let dLn : Df K mg "_law_lean" sLn ["_law_sides"] := df_mk X G a4 l4 c4 k4 (fun _ _ _ _ _ _ us hl => match us, hl with | [_], _ => rfl)
  let dBd : Df K mg "_law_bound" sBd ["_law_sides"] := df_mk X G a5 l5 c5 k5 (fun _ _ _ _ _ _ us hl => match us, hl with | [_], _ => rfl)
  let dWs : Df K mg "_law_wish" sWs ["_law_sides"] := df_mk X G a6 l6 c6 k6 (fun _ _ _ _ _ _ us hl => match us, hl with | [_], _ => rfl)
  let dCs : Df K mg "_law_cards_by" sCs ["_law_script", "_law_many"] := df_mk X G a7 l7 c7 k7 (fun _ _ _ _ _ _ us hl => match us, hl with | [_, _], _ => rfl)
  let dPr : Df K mg "_law_pairs_by" sPr ["_law_order_here", "_law_many"] := df_mk X G a8 l8 c8 k8 (fun _ _ _ _ _ _ us hl => match us, hl with | [_, _], _ => rfl)
  let dTr : Df K mg "_law_three" sTr ["_law_cards", "_law_pairs"] := df_mk X G a9 l9 c9 k9 (fun _ _ _ _ _ _ us hl => match us, hl with | [_, _], _ => rfl)
  let dSu : Df K mg "_law_sum" sSu ["_law_book", "_law_pairs"] := df_mk X G a10 l10 c10 k10 (fun _ _ _ _ _ _ us hl => match us, hl with | [_, _], _ => rfl)
  let dWo : Df K mg "worries" sWo ["cards"] := df_mk X G a11 l11 c11 k11 (fun _ _ _ _ _ _ us hl => match us, hl with | [_], _ => rfl)
  let dWy : Df K mg "worry_at" sWy ["cards", "u", "v"] := df_mk X G a12 l12 c12 k12 (fun _ _ _ _ _ _ us hl => match us, hl with | [_, _, _], _ => rfl)
  let dCw : Df K mg "chair_worry" sCw ["cards", "u"] := df_mk X G a13 l13 c13 k13 (fun _ _ _ _ _ _ us hl => match us, hl with | [_, _], _ => rfl)
  let dMm : Df K mg "may_meet" sMm ["one", "other"] := df_mk X G a14 l14 c14 k14 (fun _ _ _ _ _ _ us hl => match us, hl with | [_, _], _ => rfl)
  let dWa : Df K mg "wish_alike" sWa ["one", "other"] := df_mk X G a15 l15 c15 k15 (fun _ _ _ _ _ _ us hl => match us, hl with | [_, _], _ => rfl)
  let dPw : Df K mg "wish" sPw ["sides"] := df_mk X G a16 l16 c16 k16 (fun _ _ _ _ _ _ us hl => match us, hl with | [_], _ => rfl)
  let dPb : Df K mg "bound" sPb ["sides"] := df_mk X G a17 l17 c17 k17 (fun _ _ _ _ _ _ us hl => match us, hl with | [_], _ => rfl)
  let dPl : Df K mg "lean" sPl ["sides"] := df_mk X G a18 l18 c18 k18 (fun _ _ _ _ _ _ us hl => match us, hl with | [_], _ => rfl)
  let dLaw : Df K mg "law" sLaw ["_law_script"] := df_mk X G a19 l19 c19 k19 (fun _ _ _ _ _ _ us hl => match us, hl with | [_], _ => rfl)
  exact ⟨dLaw.fd, fun s v => .of_eq rfl, fun base _ _ => okLaw dLaw dC dM dNm dO dLn dBd dWs dCs dPr dTr dSu dWo dWy dCw dMm dWa dPw dPb dPl T⟩
theorem walk {l : PySem.W.OpenLaw} {q : Program} {loose : List Str} {XP : (Str → Option Value) → Heap → Prop} {YP : World → Heap → Prop} {d : DefRec} {K : Params → PySem.W.Frag} (hn : l.most = some 63) (hdf : d.params.defaults = [])
    (hY : ∀ (w : World) (h : Heap), YP w h → (K w.params).In h)
    (F : ∀ (w : World) (mg : Str → Option Value) (fa : Addr) (h : Heap), (K w.params).In h → h.Ns mainGlobals mg → mg d.name = some (.ref fa) →
      ∃ fd : FuncData, (∀ (s : Shared) (u : Value), BindsTo s fd ⟨[u], []⟩ [("_law_script", u)]) ∧ ∀ base : Heap, (K w.params).In base → base.Ns mainGlobals mg → FnOk l.prog w (K w.params) mg base CX0 7 fa fd ["_law_script"] (spLaw (K w.params))) :
    PySem.W.WalkO q loose XP YP l.row.toRowW d [] (fun f vs => PySem.call f vs) :=
  L2.walk_of (n := 63) (k := 7) (x := "_law_script") (CX := fun _ => CX0) (sp := fun w => spLaw (K w.params)) hn (by decide) hdf ⟨rfl, by decide, by decide⟩ hY F (fun _ _ a ns hl _ hS => ⟨a, ns, rfl, hS, hl, fun _ => rfl⟩) fun _ _ _ _ _ z => z
end Rk31_whole_order_of_pairings
open PySem PySem.W PyProof.Rows
set_option maxRecDepth 100000 in
set_option maxHeartbeats 0 in
theorem PySem.Challenge.cw_rollcall_k31_whole_order_of_pairings_holds : PySem.Challenge.rw_rollcall_k31_whole_order_of_pairings.Holds := by
  w_on; o_law; k_head; (case hw => w_witness2)
  k_fill
  refine Rk31_whole_order_of_pairings.walk (l := PySem.Challenge.rw_rollcall_k31_whole_order_of_pairings) rfl rfl (fun w h Y => PySem.W.kIn_of Y) ?F
  case F =>
    intro w mg fa h KX G hmg
    refine' Rk31_whole_order_of_pairings.all_mk KX G hmg ?a0 ?l0 ?c0 ?k0 ?a1 ?l1 ?c1 ?k1 ?a2 ?l2 ?c2 ?k2 ?a3 ?l3 ?c3 ?k3 ?a4 ?l4 ?c4 ?k4 ?a5 ?l5 ?c5 ?k5 ?a6 ?l6 ?c6 ?k6 ?a7 ?l7 ?c7 ?k7 ?a8 ?l8 ?c8 ?k8 ?a9 ?l9 ?c9 ?k9 ?a10 ?l10 ?c10 ?k10 ?a11 ?l11 ?c11 ?k11 ?a12 ?l12 ?c12 ?k12 ?a13 ?l13 ?c13 ?k13 ?a14 ?l14 ?c14 ?k14 ?a15 ?l15 ?c15 ?k15 ?a16 ?l16 ?c16 ?k16 ?a17 ?l17 ?c17 ?k17 ?a18 ?l18 ?c18 ?k18 ?a19 ?l19 ?c19 ?k19 ?z0 ?z1 ?z2 ?z3 ?z4 ?z5 ?z6
    (case a0 => k_is)
    (case l0 => k_is)
    (case c0 => k_is)
    (case k0 => k_is)
    (case a1 => k_is)
    (case l1 => k_is)
    (case c1 => k_is)
    (case k1 => k_is)
    (case a2 => k_is)
    (case l2 => k_is)
    (case c2 => k_is)
    (case k2 => k_is)
    (case a3 => k_is)
    (case l3 => k_is)
    (case c3 => k_is)
    (case k3 => k_is)
    (case a4 => k_is)
    (case l4 => k_is)
    (case c4 => k_is)
    (case k4 => k_is)
    (case a5 => k_is)
    (case l5 => k_is)
    (case c5 => k_is)
    (case k5 => k_is)
    (case a6 => k_is)
    (case l6 => k_is)
    (case c6 => k_is)
    (case k6 => k_is)
    (case a7 => k_is)
    (case l7 => k_is)
    (case c7 => k_is)
    (case k7 => k_is)
    (case a8 => k_is)
    (case l8 => k_is)
    (case c8 => k_is)
    (case k8 => k_is)
    (case a9 => k_is)
    (case l9 => k_is)
    (case c9 => k_is)
    (case k9 => k_is)
    (case a10 => k_is)
    (case l10 => k_is)
    (case c10 => k_is)
    (case k10 => k_is)
    (case a11 => k_is)
    (case l11 => k_is)
    (case c11 => k_is)
    (case k11 => k_is)
    (case a12 => k_is)
    (case l12 => k_is)
    (case c12 => k_is)
    (case k12 => k_is)
    (case a13 => k_is)
    (case l13 => k_is)
    (case c13 => k_is)
    (case k13 => k_is)
    (case a14 => k_is)
    (case l14 => k_is)
    (case c14 => k_is)
    (case k14 => k_is)
    (case a15 => k_is)
    (case l15 => k_is)
    (case c15 => k_is)
    (case k15 => k_is)
    (case a16 => k_is)
    (case l16 => k_is)
    (case c16 => k_is)
    (case k16 => k_is)
    (case a17 => k_is)
    (case l17 => k_is)
    (case c17 => k_is)
    (case k17 => k_is)
    (case a18 => k_is)
    (case l18 => k_is)
    (case c18 => k_is)
    (case k18 => k_is)
    (case a19 => k_is)
    (case l19 => k_is)
    (case c19 => k_is)
    (case k19 => k_is)
    (case z0 => k_is)
    (case z1 => k_is)
    (case z2 => k_is)
    (case z3 => k_is)
    (case z4 => k_is)
    (case z5 => k_is)
    (case z6 => k_is)
#print axioms PySem.Challenge.cw_rollcall_k31_whole_order_of_pairings_holds
