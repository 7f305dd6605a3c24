import PyProof.Rows.All
import Wide.All
import OpenK.AllK
import Wide.FinOn
import Lean
import PyProof.EqAt
import PyProof.EqKinds
import PyProof.TupleCall
import PySem.Challenge.RW_lotdraw_k04_products
set_option Elab.async false
set_option linter.all false
set_option maxRecDepth 100000
/-! THE HAND LAYER, for ints, bools, texts, own classes, LISTS and tuples (index, slices, in, append, pop ..), calls, loops. Paste it whole ahead of your own text; what your proof does not reach may be deleted. -/
namespace L2
open PySem PySem.Spec PyProof.Rows

/-- a key: an int or a str -/
abbrev Key := Sum Int Str
def keyIs : Key → Value → Bool
  | .inl k, v => Value.isInt k v
  | .inr x, v => Value.isStrOf x v
def keyH (w : World) : Key → Int
  | .inl k => hashInt k
  | .inr x => hashStr w x
theorem keyIs_shape : ∀ {k : Key} {v : Value}, keyIs k v = true → (∃ i t, k = Sum.inl i ∧ v = Value.int i t) ∨ (∃ x t, k = Sum.inr x ∧ v = Value.str x t)
  | .inl i, v, h => by
    obtain ⟨t, e⟩ := Value.isInt_shape (k := i) (v := v) h
    exact .inl ⟨i, t, rfl, e⟩
  | .inr x, v, h => by
    obtain ⟨t, e⟩ := Value.isStrOf_shape (x := x) (v := v) h
    exact .inr ⟨x, t, rfl, e⟩
theorem keyIs_int (i : Int) (t : Tok) : keyIs (.inl i) (.int i t) = true := by simp [keyIs, Value.isInt]
theorem keyIs_str (x : Str) (t : Tok) : keyIs (.inr x) (.str x t) = true := by simp [keyIs, Value.isStrOf]
theorem key_ll (a b : Int) : decide ((Sum.inl a : Key) = Sum.inl b) = (a == b) := by
  by_cases e : a = b
  · subst e; simp
  · have h : ¬ (Sum.inl a : Key) = Sum.inl b := fun q => e (Sum.inl.inj q)
    rw [decide_eq_false h]
    exact (beq_eq_false_iff_ne.mpr e).symm
theorem key_rr (a b : Str) : decide ((Sum.inr a : Key) = Sum.inr b) = decide (a = b) := by
  by_cases e : a = b
  · subst e; simp
  · have h : ¬ (Sum.inr a : Key) = Sum.inr b := fun q => e (Sum.inr.inj q)
    rw [decide_eq_false h, decide_eq_false e]
theorem key_lr (a : Int) (b : Str) : decide ((Sum.inl a : Key) = Sum.inr b) = false := decide_eq_false (fun q => nomatch q)
theorem key_rl (a : Str) (b : Int) : decide ((Sum.inr a : Key) = Sum.inl b) = false := decide_eq_false (fun q => nomatch q)

def mixKind (prog : Program) (w : World) : PySem.KeyKind prog w Key where
  is := keyIs
  hash := keyH w
  inj := fun v a b ha hb => by
    rcases keyIs_shape ha with ⟨i, t, rfl, rfl⟩ | ⟨x, t, rfl, rfl⟩
    · rcases keyIs_shape hb with ⟨j, u, rfl, e⟩ | ⟨y, u, rfl, e⟩
      · injection e with e1 _; rw [e1]
      · exact nomatch e
    · rcases keyIs_shape hb with ⟨j, u, rfl, e⟩ | ⟨y, u, rfl, e⟩
      · exact nomatch e
      · injection e with e1 _; rw [e1]
  byValue := fun k v h => by
    rcases keyIs_shape h with ⟨i, t, rfl, rfl⟩ | ⟨x, t, rfl, rfl⟩ <;> rfl
  pyHash := fun hv h => by
    rcases keyIs_shape hv with ⟨i, t, rfl, rfl⟩ | ⟨x, t, rfl, rfl⟩
    · exact wpAny_pyHash_int h
    · exact wpAny_pyHash_str h
  eqBool := fun hu hv h => by
    rcases keyIs_shape hu with ⟨i, t, rfl, rfl⟩ | ⟨x, t, rfl, rfl⟩
    · rcases keyIs_shape hv with ⟨j, u, rfl, rfl⟩ | ⟨y, u, rfl, rfl⟩
      · rw [key_ll] at h; exact wpAny_eqBool_int h
      · rw [key_lr] at h; exact SeqAt.EqAt.int_str i t y u _ _ _ _ h
    · rcases keyIs_shape hv with ⟨j, u, rfl, rfl⟩ | ⟨y, u, rfl, rfl⟩
      · rw [key_rl] at h; exact SeqAt.EqAt.str_int x t j u _ _ _ _ h
      · rw [key_rr] at h; exact wpAny_eqBool_str h
  «strs» := fun k x t v h => by
    rcases keyIs_shape h with ⟨i, u, rfl, e⟩ | ⟨y, u, rfl, e⟩
    · exact nomatch e
    · injection e with e1 _
      subst e1
      cases v <;> rfl

theorem mixKind_is (prog : Program) (w : World) (k : Key) (v : Value) : (mixKind prog w).is k v = keyIs k v := rfl
theorem mixKind_int (prog : Program) (w : World) (i : Int) (t : Tok) : (mixKind prog w).is (.inl i) (.int i t) = true := keyIs_int i t
theorem mixKind_str (prog : Program) (w : World) (x : Str) (t : Tok) : (mixKind prog w).is (.inr x) (.str x t) = true := keyIs_str x t
end L2

namespace L2
open PySem PySem.Spec PyProof.Rows

/-- a value, without the heap -/
inductive V where
  | non | bl (b : Bool) | int (i : Int) | str (x : Str) | byt (b : Array UInt8) | flt (b : UInt64) | ref (a : Addr) | ty (n : String)
  deriving DecidableEq

def RelV : V → Value → Prop
  | .non, u => u = Value.none
  | .bl b, u => u = Value.bool b
  | .int i, u => ∃ t, u = Value.int i t
  | .str x, u => ∃ t, u = Value.str x t
  | .byt b, u => ∃ t, u = Value.bytes b t
  | .flt b, u => ∃ t, u = Value.float b t
  | .ref a, u => u = Value.ref a
  | .ty n, u => u = Value.type n

abbrev Vals : List V → List Value → Prop := Paired RelV
theorem Vals.length {xs : List V} {us : List Value} (r : Vals xs us) : xs.length = us.length := Paired.length r
theorem Vals.get : ∀ {xs : List V} {us : List Value} {i : Nat} {x : V}, Vals xs us → xs[i]? = some x → ∃ u, us[i]? = some u ∧ RelV x u
  | _, _, _, _, .nil, e => by simp at e
  | _, _, 0, _, .cons r _, e => by simp at e; subst e; exact ⟨_, rfl, r⟩
  | _, _, i + 1, x, .cons _ t, e => by
    obtain ⟨u, h1, h2⟩ := Vals.get (i := i) (x := x) t (by simpa using e)
    exact ⟨u, by simpa using h1, h2⟩
theorem Vals.set {x : V} {u : Value} (r : RelV x u) : ∀ {xs : List V} {us : List Value} (i : Nat), Vals xs us → Vals (xs.set i x) (us.set i u)
  | _, _, _, .nil => .nil
  | _, _, 0, .cons _ t => .cons r t
  | _, _, i + 1, .cons q t => .cons q (Vals.set r i t)
theorem Vals.append : ∀ {xs ys : List V} {us ws : List Value}, Vals xs us → Vals ys ws → Vals (xs ++ ys) (us ++ ws)
  | _, _, _, _, .nil, s => s
  | _, _, _, _, .cons r t, s => .cons r (Vals.append t s)
theorem Vals.take : ∀ {xs : List V} {us : List Value} (n : Nat), Vals xs us → Vals (xs.take n) (us.take n)
  | _, _, 0, _ => .nil
  | _, _, _ + 1, .nil => .nil
  | _, _, n + 1, .cons r t => .cons r (Vals.take n t)
theorem Vals.drop : ∀ {xs : List V} {us : List Value} (n : Nat), Vals xs us → Vals (xs.drop n) (us.drop n)
  | _, _, 0, r => r
  | _, _, _ + 1, .nil => .nil
  | _, _, n + 1, .cons _ t => Vals.drop n t
theorem Vals.none_of : ∀ {xs : List V} {us : List Value} {i : Nat}, Vals xs us → xs[i]? = none → us[i]? = none := fun {xs us i} r e => by
  have h1 := r.length
  have h2 : xs.length ≤ i := List.getElem?_eq_none_iff.mp e
  exact List.getElem?_eq_none_iff.mpr (by omega)

def RelO : Option V → Option Value → Prop
  | some v, some u => RelV v u
  | none, none => True
  | _, _ => False
def KV {κ : Type} : List (κ × V) → List (κ × Value) → Prop := Paired fun (p : κ × V) (q : κ × Value) => p.1 = q.1 ∧ RelV p.2 q.2

/-- a key of a dict (00_mix): an int or a text -/
def kV : Key → V
  | .inl i => .int i
  | .inr x => .str x

/-- what stands at a tracked address -/
inductive HO where
  /-- a list -/
  | lst (xs : List V)
  /-- a tuple (never changes) -/
  | tup (xs : List V)
  /-- a dict whose keys are ints and texts; one whose keys are tuples of ints and texts (the empty one is both) -/
  | dK (kvs : List (Key × V)) | dT (kvs : List (List Key × V))
  /-- a set of ints: its members, its size -/
  | set (S : Int → Bool) (n : Nat)
  /-- an instance of the class at C, its dict at dx, its attributes -/
  | ins (C dx : Addr) (fs : List (Str × V))
  /-- the dict of the instance at x -/
  | own (x : Addr)
  /-- the dict of an exception -/
  | xd (fs : List (Str × V))
  /-- a bound method, f of x -/
  | met (f x : Addr)
  /-- a range object lo, lo + 1, .. below hi -/
  | rng (lo hi : Int)
  /-- a thing that is known to the object (the script; a dict while a loop walks it): read, never written while it is so -/
  | frz (o : Obj) (u : HO)
  /-- a code object's table -/
  | tbl (ps : Array Value)
  /-- any other thing, by what is true of its one object (a def of one's own: SetO a S n := HO.ext fun h => ..) -/
  | ext (φ : Heap → Prop)

abbrev Hp := Addr → Option HO
def upd (H : Hp) (a : Addr) (o : HO) : Hp := fun b => if b = a then some o else H b
theorem upd_same {H : Hp} {a : Addr} {o : HO} : upd H a o a = some o := by unfold upd; rw [if_pos rfl]
theorem upd_ne {H : Hp} {a b : Addr} {o : HO} (h : b ≠ a) : upd H a o b = H b := by unfold upd; rw [if_neg h]
theorem upd_upd {H : Hp} {a : Addr} {o u : HO} : upd (upd H a o) a u = upd H a u := by
  funext b; unfold upd; split <;> rfl
/-- two objects of different content stand apart -/
theorem ne_of {H : Hp} {a b : Addr} {o u : HO} (h : H a = some o) (h' : H b = some u) (d : o ≠ u) : a ≠ b := by
  intro e; subst e; rw [h] at h'; exact d (Option.some.inj h')
theorem ne_of_none {H : Hp} {a b : Addr} {o : HO} (h : H a = some o) (h' : H b = none) : a ≠ b := by
  intro e; subst e; rw [h] at h'; cases h'

section
variable (P : Program) (w : World)
def ObjOk (H : Hp) (h : Heap) (a : Addr) : HO → Prop
  | .lst xs => xs.length ≤ sizeLine ∧ ∃ (its : List Value) (n : Nat), Vals xs its ∧ h.get? a = some { cls := .type "list", data := .seq its.toArray n }
  | .tup xs => xs.length ≤ sizeLine ∧ ∃ its : List Value, Vals xs its ∧ IsTup h a its.toArray
  | .dK kvs => kvs.length ≤ sizeLine ∧ (a == sysModules) = false ∧ ∃ vs, KV kvs vs ∧ h.DictOf (mixKind P w) a vs
  | .dT kvs => kvs.length ≤ sizeLine ∧ (a == sysModules) = false ∧ ∃ xs : List (List Key × Addr × Value),
      Paired (fun (p : List Key × V) (q : List Key × Addr × Value) => p.1 = q.1 ∧ H q.2.1 = some (.tup (p.1.map kV)) ∧ RelV p.2 q.2.2) kvs xs ∧
      ∃ o es ep, h.get? a = some o ∧ o.ExactDict ∧ o.data = .dict es ep ∧ es.toList = xs.map (entryOfKey (tupleKind (mixKind P w))) ∧ (xs.map (·.1)).Nodup
  | .set S n => h.SetOf (intKind P w) a S n
  | .ins C dx fs => H dx = some (.own a) ∧ fs.length ≤ 1000 ∧ dx ≠ a ∧ h.get? a = some (PySem.W.instObj C dx) ∧
      ∃ mA, h.Ns1 dx mA ∧ (∀ f, RelO (fs.lookup f) (mA f)) ∧ PySem.Within mA (fs.map (·.1))
  | .own _ => ∃ o, h.get? a = some o
  | .xd fs => ∃ mA, h.Ns1 a mA ∧ ∀ f, RelO (fs.lookup f) (mA f)
  | .rng lo hi => ∃ t u v, h.get? a = some { cls := .type "range", data := .fields #[.int lo t, .int hi u, .int 1 v] }
  | .frz o u => h.get? a = some o ∧ ObjOk H h a u
  | .tbl ps => h.get? a = some { cls := .none, data := .fields ps }
  | .met f x => h.get? a = some (PySem.W.methodObj (.ref f) (.ref x))
  | .ext φ => φ h ∧ (∃ o, h.get? a = some o) ∧ ∀ h1 h2 : Heap, φ h1 → (∀ o, h1.get? a = some o → h2.get? a = some o) → φ h2
/-- the abstract heap is held -/
def HOk (H : Hp) (h : Heap) : Prop := ∀ a o, H a = some o → ObjOk P w H h a o
end

section
variable {P : Program} {w : World} {H H' : Hp} {h h' : Heap} {a : Addr} {o : HO}
theorem ObjOk.lt (x : ObjOk P w H h a o) : a < h.objs.size := by
  cases o with
  | lst xs => obtain ⟨_, _, _, _, e⟩ := x; exact Heap.lt_size e
  | tup xs => obtain ⟨_, _, _, p⟩ := x; exact p.lt
  | dK kvs => obtain ⟨_, _, _, _, o, _, _, e, _⟩ := x; exact Heap.lt_size e
  | dT kvs => obtain ⟨_, _, _, _, o, _, _, e, _⟩ := x; exact Heap.lt_size e
  | set S n => obtain ⟨o, _, _, _, e, _⟩ := x; exact Heap.lt_size e
  | ins C dx fs => obtain ⟨_, _, _, e, _⟩ := x; exact Heap.lt_size e
  | own y => obtain ⟨_, e⟩ := x; exact Heap.lt_size e
  | xd fs => obtain ⟨_, ⟨_, _, _, e, _⟩, _⟩ := x; exact Heap.lt_size e
  | rng lo hi => obtain ⟨_, _, _, e⟩ := x; exact Heap.lt_size e
  | frz ob u => obtain ⟨e, _⟩ := x; exact Heap.lt_size e
  | tbl ps => exact Heap.lt_size (show h.get? a = some _ from x)
  | met f y => exact Heap.lt_size (show h.get? a = some _ from x)
  | ext φ => obtain ⟨_, ⟨_, e⟩, _⟩ := x; exact Heap.lt_size e
theorem Paired.mapP {α β : Type} {F G : α → β → Prop} : ∀ {l₁ : List α} {l₂ : List β}, Paired F l₁ l₂ → (∀ a b, F a b → G a b) → Paired G l₁ l₂
  | _, _, .nil, _ => .nil
  | _, _, .cons r t, f => .cons (f _ _ r) (Paired.mapP t f)
theorem Paired.imp' {α β : Type} {F G : α → β → Prop} (f : ∀ a b, F a b → G a b) {l₁ : List α} {l₂ : List β} (r : Paired F l₁ l₂) : Paired G l₁ l₂ := Paired.mapP r f
/-- what an object's description leans on: its own object, its own dict, the tuples -/
theorem ObjOk.stay (x : ObjOk P w H h a o) (k : ∀ b u, (b = a ∨ H b = some (.own a)) → h.get? b = some u → h'.get? b = some u)
    (ho : ∀ b, H b = some (.own a) → H' b = some (.own a)) (ht : ∀ b xs, H b = some (.tup xs) → H' b = some (.tup xs)) : ObjOk P w H' h' a o := by
  induction o with
  | lst xs => obtain ⟨z, its, n, r, e⟩ := x; exact ⟨z, its, n, r, k _ _ (.inl rfl) e⟩
  | tup xs => obtain ⟨z, its, r, ob, e, c⟩ := x; exact ⟨z, its, r, ob, k _ _ (.inl rfl) e, c⟩
  | dK kvs => obtain ⟨z, y, vs, r, ob, es, ep, e, c⟩ := x; exact ⟨z, y, vs, r, ob, es, ep, k _ _ (.inl rfl) e, c⟩
  | dT kvs =>
    obtain ⟨z, y, xs, r, ob, es, ep, e, c⟩ := x
    exact ⟨z, y, xs, Paired.mapP r fun p q z => ⟨z.1, ht _ _ z.2.1, z.2.2⟩, ob, es, ep, k _ _ (.inl rfl) e, c⟩
  | set S n => obtain ⟨ob, es, ep, t, e, c⟩ := x; exact ⟨ob, es, ep, t, k _ _ (.inl rfl) e, c⟩
  | ins C dx fs =>
    obtain ⟨d, z, ne, e, mA, ⟨od, es, ep, e2, c⟩, r⟩ := x
    exact ⟨ho _ d, z, ne, k _ _ (.inl rfl) e, mA, ⟨od, es, ep, k _ _ (.inr d) e2, c⟩, r⟩
  | own y => obtain ⟨ob, e⟩ := x; exact ⟨ob, k _ _ (.inl rfl) e⟩
  | xd fs => obtain ⟨mA, ⟨od, es, ep, e, c⟩, r⟩ := x; exact ⟨mA, ⟨od, es, ep, k _ _ (.inl rfl) e, c⟩, r⟩
  | rng lo hi => obtain ⟨t, u, v, e⟩ := x; exact ⟨t, u, v, k _ _ (.inl rfl) e⟩
  | frz ob u ih => obtain ⟨e, q⟩ := x; exact ⟨k _ _ (.inl rfl) e, ih q⟩
  | tbl ps =>
    have e : h.get? a = some { cls := .none, data := .fields ps } := x
    show h'.get? a = some { cls := .none, data := .fields ps }
    exact k a _ (.inl rfl) e
  | met f y =>
    have e : h.get? a = some (PySem.W.methodObj (.ref f) (.ref y)) := x
    show h'.get? a = some (PySem.W.methodObj (.ref f) (.ref y))
    exact k a _ (.inl rfl) e
  | ext φ => obtain ⟨p, ⟨o, e⟩, st⟩ := x; exact ⟨st _ _ p fun o q => k _ _ (.inl rfl) q, ⟨o, k _ _ (.inl rfl) e⟩, st⟩
theorem HOk.lt (x : HOk P w H h) (e : H a = some o) : a < h.objs.size := (x a o e).lt
theorem HOk.fresh (x : HOk P w H h) (e : h.objs.size ≤ a) : H a = none := by
  cases q : H a with
  | none => rfl
  | some u => exact absurd (Nat.lt_of_lt_of_le (x.lt q) e) (Nat.lt_irrefl _)
/-- every object of the heap is kept -/
theorem HOk.kept (x : HOk P w H h) (k : ∀ b u, h.get? b = some u → h'.get? b = some u) : HOk P w H h' := fun a o e =>
  (x a o e).stay (fun b u _ q => k b u q) (fun _ q => q) fun _ _ q => q
/-- a new object is laid and tracked -/
theorem HOk.laid (x : HOk P w H h) (k : ∀ b u, h.get? b = some u → h'.get? b = some u) (hp : h.objs.size ≤ a) (new : ObjOk P w (upd H a o) h' a o) : HOk P w (upd H a o) h' := fun b u e => by
  have hn := x.fresh hp
  by_cases hb : b = a
  · subst hb; rw [upd_same] at e; cases e; exact new
  · rw [upd_ne hb] at e
    exact (x b u e).stay (fun c v _ q => k c v q) (fun c q => by rw [upd_ne (ne_of_none q hn)]; exact q) fun c xs q => by rw [upd_ne (ne_of_none q hn)]; exact q
end

/-- what may be read as u: it is u, or a known u -/
def Rd (H : Hp) (a : Addr) (u : HO) : Prop := H a = some u ∨ ∃ o, H a = some (.frz o u)
theorem Rd.of {H : Hp} {a : Addr} {u : HO} (h : H a = some u) : Rd H a u := .inl h
theorem Rd.ok {P : Program} {w : World} {H : Hp} {h : Heap} {a : Addr} {u : HO} (r : Rd H a u) (x : HOk P w H h) : ObjOk P w H h a u := by
  rcases r with r | ⟨o, r⟩
  · exact x a u r
  · obtain ⟨_, q⟩ := x a _ r
    exact q
/-- what may be written -/
def Mut : Option HO → Prop
  | some (.lst _) => True
  | some (.dK _) => True
  | some (.dT _) => True
  | some (.set _ _) => True
  | some (.ins _ _ _) => True
  | some (.ext _) => True
  | _ => False
section
variable {P : Program} {w : World} {H : Hp} {h h' : Heap} {x e : Addr} {o' : HO}
/-- the object at e is changed: x itself, or the dict of the instance x -/
theorem HOk.write (ok : HOk P w H h) (mu : Mut (H x)) (he : e = x ∨ H e = some (.own x)) (k : ∀ b u, b ≠ e → h.get? b = some u → h'.get? b = some u) (heo : ∃ u, h'.get? e = some u)
    (new : ObjOk P w (upd H x o') h' x o') : HOk P w (upd H x o') h' := fun b u q => by
  have nown : ∀ c y, H c = some (.own y) → c ≠ x := fun c y r z => by subst z; rw [r] at mu; exact mu
  have ntup : ∀ c xs, H c = some (.tup xs) → c ≠ x := fun c xs r z => by subst z; rw [r] at mu; exact mu
  by_cases hb : b = x
  · subst hb; rw [upd_same] at q; cases q; exact new
  · rw [upd_ne hb] at q
    by_cases hbe : b = e
    · have q' : H b = some (.own x) := by
        rcases he with z | z
        · exact absurd (hbe.trans z) hb
        · rw [hbe]; exact z
      rw [q] at q'; cases q'
      obtain ⟨v, hv⟩ := heo
      exact ⟨v, by rw [hbe]; exact hv⟩
    · refine (ok b u q).stay (fun c v hc r => k c v ?_ r) (fun c r => by rw [upd_ne (nown c b r)]; exact r) fun c xs r => by rw [upd_ne (ntup c xs r)]; exact r
      rcases hc with rfl | hc
      · exact hbe
      · rintro rfl
        rcases he with z | z
        · exact nown c b hc z
        · rw [hc] at z; cases z; exact hb rfl
end

/-! ### kept unless tracked; of the frames at fs (the callers') the slots may change (an exception that passes writes there); of the records at ex (iterators) nothing is said -/
structure Un (fs ex : List Addr) (H H' : Hp) (h h' : Heap) : Prop where
  keep : ∀ b o, h.get? b = some o → H b = none → b ∉ fs → b ∉ ex → h'.get? b = some o
  slot : ∀ b o, h.get? b = some o → H b = none → b ∈ fs → b ∉ ex → ∃ sl, h'.get? b = some { o with slots := sl }
  free : ∀ b o, h.get? b = some o → H b = none → b ∉ ex → H' b = none
  there : ∀ b o, h.get? b = some o → b ∉ ex → ∃ o', h'.get? b = some o'
  tups : ∀ b xs, H b = some (.tup xs) → H' b = some (.tup xs)
  frzs : ∀ b o u, H b = some (.frz o u) → H' b = some (.frz o u)
  tbls : ∀ b ps, H b = some (.tbl ps) → ∃ more, H' b = some (.tbl (ps ++ more))
section
variable {fs fs' ex ex' : List Addr} {H H1 H2 : Hp} {h h1 h2 h' : Heap} {a x e : Addr} {o : HO}
theorem Un.any (u : Un fs ex H H1 h h1) {b : Addr} {ob : Obj} (q : h.get? b = some ob) (n : H b = none) (hx : b ∉ ex) : ∃ sl, h1.get? b = some { ob with slots := sl } := by
  by_cases hb : b ∈ fs
  · exact u.slot b ob q n hb hx
  · exact ⟨ob.slots, u.keep b ob q n hb hx⟩
theorem Un.trans (a : Un fs ex H H1 h h1) (b : Un fs ex H1 H2 h1 h2) : Un fs ex H H2 h h2 where
  keep := fun c ob q n hc hx => b.keep c ob (a.keep c ob q n hc hx) (a.free c ob q n hx) hc hx
  slot := fun c ob q n hc hx => by
    obtain ⟨sl, e1⟩ := a.slot c ob q n hc hx
    obtain ⟨sl', e2⟩ := b.slot c _ e1 (a.free c ob q n hx) hc hx
    exact ⟨sl', e2⟩
  free := fun c ob q n hx => by
    obtain ⟨o', e1⟩ := a.there c ob q hx
    exact b.free c o' e1 (a.free c ob q n hx) hx
  there := fun c ob q hx => by
    obtain ⟨o', e1⟩ := a.there c ob q hx
    exact b.there c o' e1 hx
  tups := fun c xs q => b.tups c xs (a.tups c xs q)
  frzs := fun c ob xs q => b.frzs c ob xs (a.frzs c ob xs q)
  tbls := fun c ps q => by
    obtain ⟨m1, e1⟩ := a.tbls c ps q
    obtain ⟨m2, e2⟩ := b.tbls c _ e1
    exact ⟨m1 ++ m2, by rw [e2, Array.append_assoc]⟩
theorem Un.kept (k : ∀ b u, h.get? b = some u → h'.get? b = some u) : Un fs ex H H h h' :=
  ⟨fun b ob q _ _ _ => k b ob q, fun b ob q _ _ _ => ⟨ob.slots, k b ob q⟩, fun _ _ _ n _ => n, fun b ob q _ => ⟨ob, k b ob q⟩, fun _ _ q => q, fun _ _ _ q => q, fun _ ps q => ⟨#[], by rw [q]; simp⟩⟩
theorem Un.refl : Un fs ex H H h h := Un.kept fun _ _ q => q
theorem Un.laid (k : ∀ b u, h.get? b = some u → h'.get? b = some u) (hp : h.objs.size ≤ a) (hn : H a = none) : Un fs ex H (upd H a o) h h' where
  keep := fun b u q _ _ _ => k b u q
  slot := fun b u q _ _ _ => ⟨u.slots, k b u q⟩
  free := fun b u q n _ => by rw [upd_ne (Nat.ne_of_lt (Nat.lt_of_lt_of_le (Heap.lt_size q) hp))]; exact n
  there := fun b u q _ => ⟨u, k b u q⟩
  tups := fun b xs q => by rw [upd_ne (ne_of_none q hn)]; exact q
  frzs := fun b u xs q => by rw [upd_ne (ne_of_none q hn)]; exact q
  tbls := fun b ps q => ⟨#[], by rw [upd_ne (ne_of_none q hn), q]; simp⟩
theorem Un.write (mu : Mut (H x)) (he : e = x ∨ H e = some (.own x)) (k : ∀ b u, b ≠ e → h.get? b = some u → h'.get? b = some u) (heo : ∃ u, h'.get? e = some u) : Un fs ex H (upd H x o) h h' := by
  have hx : ∀ b, H b = none → b ≠ x := fun b n z => by subst z; rw [n] at mu; exact mu
  have hb : ∀ b, H b = none → b ≠ e := fun b n z => by
    subst z
    rcases he with r | r
    · exact hx b n r
    · rw [n] at r; cases r
  have hm : ∀ b u, H b = some u → ¬ Mut (some u) → b ≠ x := fun b u q nm z => by subst z; rw [q] at mu; exact nm mu
  refine ⟨fun b u q n _ _ => k b u (hb b n) q, fun b u q n _ _ => ⟨u.slots, k b u (hb b n) q⟩, fun b u q n _ => by rw [upd_ne (hx b n)]; exact n, fun b u q _ => ?_,
    fun b xs q => by rw [upd_ne (hm b _ q fun z => z)]; exact q, fun b u xs q => by rw [upd_ne (hm b _ q fun z => z)]; exact q, fun b ps q => ⟨#[], by rw [upd_ne (hm b _ q fun z => z), q]; simp⟩⟩
  by_cases hbe : b = e
  · subst hbe; exact heo
  · exact ⟨u, k b u hbe q⟩
theorem Un.mono (u : Un fs ex H H1 h h1) (hs : ∀ b ∈ fs, b ∈ fs') (hx : ∀ b ∈ ex, b ∈ ex') : Un fs' ex' H H1 h h1 :=
  ⟨fun b ob q n hb he => u.keep b ob q n (fun z => hb (hs b z)) fun z => he (hx b z), fun _ _ q n _ he => u.any q n fun z => he (hx _ z), fun b ob q n he => u.free b ob q n fun z => he (hx b z), fun b ob q he => u.there b ob q fun z => he (hx b z), u.tups, u.frzs, u.tbls⟩
end

/-! ### the heap without what is tracked -/
def trk (h : Heap) (H : Hp) : List Addr := (List.range h.objs.size).filter fun a => (H a).isSome
def hidT (h : Heap) (H : Hp) : Heap := PySem.W.hideAll h (trk h H)
theorem hidT_size (h : Heap) (H : Hp) : (hidT h H).objs.size = h.objs.size := PySem.W.hideAll_size _ _
theorem hidT_get {h : Heap} {H : Hp} {b : Addr} {o : Obj} (e : h.get? b = some o) (n : H b = none) : (hidT h H).get? b = some o :=
  PySem.W.hideAll_get _ e fun hm => by
    have q : (H b).isSome = true := (List.mem_filter.mp hm).2
    rw [n] at q; simp at q
theorem of_hidT {h : Heap} {H : Hp} {b : Addr} {o : Obj} (e : (hidT h H).get? b = some o) : h.get? b = some o ∧ H b = none := by
  have e' : h.get? b = some o := PySem.W.of_hideAll (trk h H) e
  refine ⟨e', ?_⟩
  cases q : H b with
  | none => rfl
  | some x =>
    have hm : b ∈ trk h H := List.mem_filter.mpr ⟨List.mem_range.mpr (Heap.lt_size e'), by simp [q]⟩
    have z : (hidT h H).get? b = none := PySem.W.hideAll_none (trk h H) hm
    rw [z] at e; cases e

/-! ### OpenK's ledger, filled with every new object but one -/
def allNews (g h : Heap) (L : Addr) : List (Addr × Obj) := (List.range h.objs.size).filterMap fun a => if a = L ∨ (g.get? a).isSome = true then none else (h.get? a).map fun o => (a, o)
theorem mem_allNews {g h : Heap} {L a : Addr} {o : Obj} (h1 : a ≠ L) (h2 : g.get? a = none) (h3 : h.get? a = some o) : (a, o) ∈ allNews g h L :=
  List.mem_filterMap.mpr ⟨a, List.mem_range.mpr (Heap.lt_size h3), by simp [h1, h2, h3]⟩
theorem of_mem_allNews {g h : Heap} {L : Addr} {p : Addr × Obj} (hp : p ∈ allNews g h L) : p.1 ≠ L ∧ g.get? p.1 = none ∧ h.get? p.1 = some p.2 := by
  obtain ⟨b, _, e⟩ := List.mem_filterMap.mp hp
  split at e
  · cases e
  · rename_i hn
    cases q : h.get? b with
    | none => rw [q] at e; simp at e
    | some u =>
      rw [q] at e
      simp only [Option.map_some, Option.some.injEq] at e
      subst e
      refine ⟨fun z => hn (.inl z), ?_, q⟩
      show g.get? b = none
      cases r : g.get? b with
      | none => rfl
      | some v => exact (hn (.inr (by simp [r]))).elim
def rest (g h : Heap) (L d : Addr) : List (Addr × Obj) := (allNews g h L).filter fun p => decide (p.1 ≠ d)
theorem rest_ne {g h : Heap} {L d : Addr} : ∀ p ∈ rest g h L d, p.1 ≠ d := fun p hp => of_decide_eq_true (List.mem_filter.mp hp).2
theorem mem_rest {g h : Heap} {L d a : Addr} {o : Obj} (h1 : a ≠ L) (h2 : g.get? a = none) (h3 : h.get? a = some o) (h4 : a ≠ d) : (a, o) ∈ rest g h L d :=
  List.mem_filter.mpr ⟨mem_allNews h1 h2 h3, decide_eq_true h4⟩
theorem news_all {g h : Heap} {L : Addr} : News g L h (allNews g h L) := fun p hp => let ⟨a, b, c⟩ := of_mem_allNews hp; ⟨c, a, b⟩
theorem news_at {g h : Heap} {L d : Addr} {o : Obj} (h1 : d ≠ L) (h2 : g.get? d = none) (h3 : h.get? d = some o) : News g L h ((d, o) :: rest g h L d) := fun p hp => by
  rcases List.mem_cons.mp hp with rfl | hp
  · exact ⟨h3, h1, h2⟩
  · exact news_all p (List.mem_filter.mp hp).1
/-- behind a rule that changed d alone: all else but the frame is kept -/
theorem kept_of_news {g h h' : Heap} {L d : Addr} {m : Str → Option Value} (k : ∀ b o, g.get? b = some o → h.get? b = some o) (F : Fr g L h' m) (N : News g L h' (rest g h L d)) :
    ∀ b o, b ≠ L → b ≠ d → h.get? b = some o → h'.get? b = some o := fun b o h1 h2 e => by
  cases q : g.get? b with
  | some u =>
    have := k b u q
    rw [e] at this; cases this
    exact F.keep b _ q
  | none => exact (N (b, o) (mem_rest h1 q e h2)).1
end L2

namespace L2
open PySem PySem.Spec PyProof.Rows

/-- the module's facts, over the base: the heap at the law's entry without what is tracked there -/
structure Mod (K : PySem.W.Frag) (mg : Str → Option Value) (base : Heap) : Prop where
  kin : K.In base
  glob : base.Ns mainGlobals mg
  blt : ∃ mb, base.Ns builtinsNs mb ∧ ∀ x : Str, x ≠ "__name__" → mb x = bootBuiltins x
  nolimit : base.NoLimit

/-- the context: a def's body (or a comprehension's block) running. base: fixed through the whole law; s₀, H₀: the entry; outer: the frames whose slots others may change (a def's callers); stack: all frames that run;
   ex: iterators that were made ahead of the entry and are walked here (a comprehension's); fn: the names whose cells were made at the entry (a def: all; a comprehension's block: its own); calm: not within an except suite; pn: pins that every state bears; xe: what is wanted of an exception that leaves the code -/
structure Cx where
  prog : Program
  w : World
  K : PySem.W.Frag
  mg : Str → Option Value
  base : Heap
  A : Around
  N : List Str
  s₀ : Shared
  H₀ : Hp
  env : Env
  outer : List Env
  stack : List Env
  ex : List Addr
  fn : Str → Bool
  calm : Bool
  pn : List (Addr × Obj)
  xe : Value → Shared → Prop
/-- the callers' frames -/
def frs (l : List Env) : List Addr := l.filterMap (·.frame)
abbrev Cx.fs (X : Cx) : List Addr := frs X.outer

def Vis (sc : Scope) (x : Str) : Prop := sc.names.lookup x = some .local ∨ sc.names.lookup x = some .cell ∨ sc.names.lookup x = some .free
def Loc (sc : Scope) (x : Str) : Prop := sc.names.lookup x = some .local ∨ sc.names.lookup x = some .cell
def Look (env : Env) (h : Heap) (m : Str → Option Value) (x : Str) (u : Value) : Prop :=
  (env.kindOf x = some .local ∧ m x = some u) ∨ ((env.kindOf x = some .cell ∨ env.kindOf x = some .free) ∧ ∃ c, env.cells.lookup x = some c ∧ h.IsCell c (some u))

structure Cx.Ok (X : Cx) : Prop where
  mod : Mod X.K X.mg X.base
  kind : X.env.scope.kind = .function
  glob : X.env.globals = mainGlobals
  blt : X.env.builtins = builtinsNs
  above : X.s₀.heap.objs.size ≤ X.env.locals
  inj : ∀ x y c, X.env.cells.lookup x = some c → X.env.cells.lookup y = some c → x = y
  has : ∀ x, (X.env.kindOf x = some .cell ∨ X.env.kindOf x = some .free) → ∃ c, X.env.cells.lookup x = some c
  cab : ∀ x c, X.fn x = true → X.env.cells.lookup x = some c → X.s₀.heap.objs.size ≤ c
  hd : X.calm = true → X.A.handled = none
  frames : X.A.frames = some X.stack
  stk : X.stack = X.outer ∨ (X.stack = X.env :: X.outer ∧ X.env.frame = some X.env.locals)
  exf : ∀ b ∈ X.ex, b ≠ X.env.locals ∧ ∀ x c, X.env.cells.lookup x = some c → c ≠ b
  bs : ∀ b o, X.base.get? b = some o → X.s₀.heap.get? b = some o ∧ X.H₀ b = none
  bsz : X.base.objs.size ≤ X.s₀.heap.objs.size
  noex : ∀ b o, X.base.get? b = some o → b ∉ X.ex
  exfs : ∀ b ∈ X.ex, b ∉ X.fs
  funs : X.s₀.heap.FunFrames X.base X.outer
  frf : ∀ b ∈ X.fs, X.H₀ b = none

structure Inv (X : Cx) (pins : List (Addr × Obj)) (σ : List (Option V)) (H : Hp) (s : Shared) : Prop where
  ok : X.Ok
  os : s.os = X.s₀.os
  bare : AllBare s.gens
  base : Un X.fs X.ex X.H₀ H X.s₀.heap s.heap
  loc : ∃ m, s.heap.Ns X.env.locals m ∧ ∀ (i : Nat) (x : Str) (v : V), X.N[i]? = some x → σ[i]? = some (some v) → Vis X.env.scope x → ∃ u, RelV v u ∧ Look X.env s.heap m x u
  cell : ∀ x c, X.env.cells.lookup x = some c → ∃ v, s.heap.IsCell c v
  free : H X.env.locals = none
  freeC : ∀ x c, X.env.cells.lookup x = some c → H c = none
  pin : ∀ p ∈ X.pn ++ pins, s.heap.get? p.1 = some p.2 ∧ H p.1 = none ∧ p.1 ≠ X.env.locals ∧ p.1 ∉ X.fs ∧ ∀ v, p.2.data ≠ .cell v
  hok : HOk X.prog X.w H s.heap
  len : σ.length = X.N.length

section
variable {X : Cx} {pins : List (Addr × Obj)} {σ : List (Option V)} {H H' : Hp} {s : Shared} {h' : Heap}

theorem Cx.Ok.nofr (ok : X.Ok) {b : Addr} {o : Obj} (e : X.base.get? b = some o) : b ∉ X.fs := fun hb => by
  have := (ok.funs.mem hb).1
  rw [e] at this; cases this
theorem Inv.bs (I : Inv X pins σ H s) : ∀ b o, X.base.get? b = some o → s.heap.get? b = some o ∧ H b = none := fun b o e =>
  ⟨I.base.keep b o (I.ok.bs b o e).1 (I.ok.bs b o e).2 (I.ok.nofr e) (I.ok.noex b o e), I.base.free b o (I.ok.bs b o e).1 (I.ok.bs b o e).2 (I.ok.noex b o e)⟩
theorem Inv.bk (I : Inv X pins σ H s) : ∀ b o, X.base.get? b = some o → s.heap.get? b = some o := fun b o e => (I.bs b o e).1
theorem Inv.mod (I : Inv X pins σ H s) : Mod X.K X.mg X.base := I.ok.mod
theorem Inv.kIn (I : Inv X pins σ H s) : X.K.In s.heap := I.ok.mod.kin.keeps I.bk
theorem Inv.nolimit (I : Inv X pins σ H s) : s.heap.NoLimit := I.ok.mod.nolimit.keeps I.bk
/-- the frame over the base: for OpenK's rules (K.In X.base is I.mod.kin) -/
theorem Inv.fr (I : Inv X pins σ H s) : ∃ m, Fr X.base X.env.locals s.heap m :=
  let ⟨m, hn, _⟩ := I.loc
  ⟨m, hn, I.bk, Nat.le_trans I.ok.bsz I.ok.above⟩
theorem Inv.lt (I : Inv X pins σ H s) : X.env.locals < s.heap.objs.size := let ⟨_, hn, _⟩ := I.loc; hn.lt
theorem Inv.sz (I : Inv X pins σ H s) : X.s₀.heap.objs.size ≤ s.heap.objs.size := Nat.le_trans I.ok.above (Nat.le_of_lt I.lt)
theorem Inv.nofs (I : Inv X pins σ H s) {a : Addr} (h : s.heap.objs.size ≤ a) : a ∉ X.fs := fun hb => by
  obtain ⟨_, o, ho, _⟩ := I.ok.funs.mem hb
  exact absurd (Nat.lt_of_lt_of_le (Heap.lt_size ho) (Nat.le_trans I.sz h)) (Nat.lt_irrefl _)
theorem Inv.cne (I : Inv X pins σ H s) : ∀ x c, X.env.cells.lookup x = some c → c ≠ X.env.locals := fun x c e z => by
  obtain ⟨v, o, ho, hd⟩ := I.cell x c e
  obtain ⟨m, ⟨o', es, ep, ho', hd', _⟩, _⟩ := I.loc
  rw [z, ho'] at ho; cases ho; rw [hd'] at hd; cases hd
theorem Inv.funs (I : Inv X pins σ H s) : s.heap.FunFrames X.base X.outer := by
  have all : ∀ (l : List Env), (∀ b ∈ frs l, b ∈ X.fs) → X.s₀.heap.FunFrames X.base l → s.heap.FunFrames X.base l := by
    intro l
    induction l with
    | nil => intro _ _; trivial
    | cons env r ih =>
      intro hs hl
      obtain ⟨hk, ⟨L, o, hf, hn, ho, hd⟩, hr⟩ := hl
      have hL : L ∈ X.fs := hs L (by unfold frs; rw [List.filterMap_cons, hf]; exact List.mem_cons_self)
      obtain ⟨sl, e⟩ := I.base.slot L o ho (I.ok.frf L hL) hL fun z => I.ok.exfs L z hL
      exact ⟨hk, ⟨L, _, hf, hn, e, hd⟩, ih (fun b hb => hs b (by unfold frs; rw [List.filterMap_cons, hf]; exact List.mem_cons_of_mem _ hb)) hr⟩
  exact all X.outer (fun _ hb => hb) I.ok.funs

/-- the frames that run, for a call -/
theorem Inv.stack (I : Inv X pins σ H s) : s.heap.FunFrames X.base X.stack := by
  rcases I.ok.stk with e | ⟨e, hf⟩
  · rw [e]; exact I.funs
  · rw [e]
    obtain ⟨m, hn, _⟩ := I.loc
    refine .cons (by rw [I.ok.kind]; decide) hf hn ?_ I.funs
    exact Heap.get?_none_of_le (Nat.le_trans I.ok.bsz I.ok.above)
theorem Inv.stkSub (I : Inv X pins σ H s) : ∀ b ∈ frs X.stack, b ∈ X.env.locals :: X.fs := fun b hb => by
  rcases I.ok.stk with e | ⟨e, hf⟩
  · rw [e] at hb; exact List.mem_cons_of_mem _ hb
  · rw [e] at hb
    unfold frs at hb
    rw [List.filterMap_cons, hf] at hb
    exact hb
theorem Inv.stkFree (I : Inv X pins σ H s) : ∀ b ∈ frs X.stack, H b = none := fun b hb => by
  rcases List.mem_cons.mp (I.stkSub b hb) with e | hb
  · rw [e]; exact I.free
  · obtain ⟨_, o, ho, _⟩ := I.ok.funs.mem hb
    exact I.base.free b o ho (I.ok.frf b hb) fun z => I.ok.exfs b z hb

/-- THE STEP: the untracked objects but the frame and the records at ch are kept (the callers' frames up to slots), the frame's map is kept, the new abstract heap is held -/
theorem Inv.step {g' : Array GenState} {t' : Nat} {d' : Drawn} {ch : List Addr} (I : Inv X pins σ H s)
    (hch : ∀ b ∈ ch, (b ∈ X.ex ∨ X.s₀.heap.objs.size ≤ b) ∧ b ≠ X.env.locals ∧ (∀ x c, X.env.cells.lookup x = some c → c ≠ b) ∧ ∀ p ∈ X.pn ++ pins, p.1 ≠ b)
    (keep : ∀ b o, b ≠ X.env.locals → b ∉ X.fs → b ∉ ch → s.heap.get? b = some o → H b = none → h'.get? b = some o)
    (slot : ∀ b o, b ≠ X.env.locals → b ∈ X.fs → b ∉ ch → s.heap.get? b = some o → H b = none → ∃ sl, h'.get? b = some { o with slots := sl }) (free : ∀ b o, b ∉ ch → s.heap.get? b = some o → H b = none → H' b = none)
    (there : ∀ b o, b ∉ ch → s.heap.get? b = some o → ∃ o', h'.get? b = some o')
    (tups : ∀ b xs, H b = some (.tup xs) → H' b = some (.tup xs)) (frzs : ∀ b o u, H b = some (.frz o u) → H' b = some (.frz o u)) (tbls : ∀ b ps, H b = some (.tbl ps) → ∃ more, H' b = some (.tbl (ps ++ more)))
    (ns : ∀ m, s.heap.Ns X.env.locals m → h'.Ns X.env.locals m) (hok : HOk X.prog X.w H' h') (hg : AllBare g') :
    Inv X pins σ H' { s with heap := h', gens := g', drawn := d', toks := t' } := by
  have neL : ∀ b o, X.s₀.heap.get? b = some o → b ≠ X.env.locals := fun b o e => Nat.ne_of_lt (Nat.lt_of_lt_of_le (Heap.lt_size e) I.ok.above)
  have neC : ∀ b o, X.s₀.heap.get? b = some o → b ∉ X.ex → b ∉ ch := fun b o e hx hb => by
    rcases (hch b hb).1 with z | z
    · exact hx z
    · exact absurd (Nat.lt_of_lt_of_le (Heap.lt_size e) z) (Nat.lt_irrefl _)
  have cellK : ∀ x c, X.env.cells.lookup x = some c → ∀ v, s.heap.IsCell c v → h'.IsCell c v := fun x c e v ⟨o, ho, hd⟩ => by
    have nch : c ∉ ch := fun z => (hch c z).2.2.1 x c e rfl
    by_cases hc : c ∈ X.fs
    · obtain ⟨sl, q⟩ := slot c o (I.cne x c e) hc nch ho (I.freeC x c e)
      exact ⟨_, q, hd⟩
    · exact ⟨o, keep c o (I.cne x c e) hc nch ho (I.freeC x c e), hd⟩
  refine ⟨I.ok, I.os, hg, ⟨fun b o e n hb hx => ?_, fun b o e n hb hx => ?_, fun b o e n hx => ?_, fun b o e hx => ?_, fun b xs e => tups b xs (I.base.tups b xs e), fun b o xs e => frzs b o xs (I.base.frzs b o xs e), fun b ps e => ?_⟩, ?_, fun x c e => ?_, ?_, fun x c e => ?_, fun p hp => ?_, hok, I.len⟩
  · exact keep b o (neL b o e) hb (neC b o e hx) (I.base.keep b o e n hb hx) (I.base.free b o e n hx)
  · obtain ⟨sl, e1⟩ := I.base.slot b o e n hb hx
    obtain ⟨sl', e2⟩ := slot b _ (neL b o e) hb (neC b o e hx) e1 (I.base.free b o e n hx)
    exact ⟨sl', e2⟩
  · obtain ⟨o', e1⟩ := I.base.there b o e hx
    exact free b o' (neC b o e hx) e1 (I.base.free b o e n hx)
  · obtain ⟨o', e1⟩ := I.base.there b o e hx
    exact there b o' (neC b o e hx) e1
  · obtain ⟨m1, e1⟩ := I.base.tbls b ps e
    obtain ⟨m2, e2⟩ := tbls b _ e1
    exact ⟨m1 ++ m2, by rw [e2, Array.append_assoc]⟩
  · obtain ⟨m, hn, hl⟩ := I.loc
    refine ⟨m, ns m hn, fun i x v e1 e2 e3 => ?_⟩
    obtain ⟨u, r, l⟩ := hl i x v e1 e2 e3
    refine ⟨u, r, ?_⟩
    rcases l with l | ⟨k, c, e, z⟩
    · exact .inl l
    · exact .inr ⟨k, c, e, cellK x c e _ z⟩
  · obtain ⟨v, z⟩ := I.cell x c e
    exact ⟨v, cellK x c e v z⟩
  · obtain ⟨m, ⟨o, _, _, ho, _⟩, _⟩ := I.loc
    exact free _ o (fun z => (hch _ z).2.1 rfl) ho I.free
  · obtain ⟨v, o, ho, hd⟩ := I.cell x c e
    exact free c o (fun z => (hch c z).2.2.1 x c e rfl) ho (I.freeC x c e)
  · obtain ⟨e, n, ne, nf, d⟩ := I.pin p hp
    have nch : p.1 ∉ ch := fun z => (hch p.1 z).2.2.2 p hp rfl
    exact ⟨keep p.1 p.2 ne nf nch e n, free p.1 p.2 nch e n, ne, nf, d⟩
/-- .. where the frame's own object is kept too -/
theorem Inv.un {t' : Nat} (I : Inv X pins σ H s) (u : Un X.fs [] H H' s.heap h') (hok : HOk X.prog X.w H' h') : Inv X pins σ H' { s with heap := h', toks := t' } := by
  obtain ⟨m, ⟨o, es, ep, ho, r⟩, _⟩ := id I.loc
  obtain ⟨sl, hL⟩ := u.any ho I.free (by simp)
  exact I.step (g' := s.gens) (d' := s.drawn) (ch := []) (fun _ z => nomatch z) (fun b o _ hb _ e n => u.keep b o e n hb (by simp)) (fun b o _ hb _ e n => u.slot b o e n hb (by simp)) (fun b o _ e n => u.free b o e n (by simp)) (fun b o _ e => u.there b o e (by simp)) u.tups u.frzs u.tbls (fun m' hm => by
    obtain ⟨o', es', ep', ho', r'⟩ := hm
    rw [ho] at ho'; cases ho'
    exact ⟨_, es', ep', hL, r'⟩) hok I.bare
/-- behind a call (or a comprehension's block): the slots of this frame may have changed too, the records at ch may have turned -/
theorem Inv.call {g' : Array GenState} {t' : Nat} {d' : Drawn} {ch : List Addr} (I : Inv X pins σ H s) (u : Un (frs X.stack) ch H H' s.heap h') (hok : HOk X.prog X.w H' h') (hg : AllBare g')
    (hch : ∀ b ∈ ch, (b ∈ X.ex ∨ X.s₀.heap.objs.size ≤ b) ∧ b ≠ X.env.locals ∧ (∀ x c, X.env.cells.lookup x = some c → c ≠ b) ∧ ∀ p ∈ X.pn ++ pins, p.1 ≠ b) :
    Inv X pins σ H' { s with heap := h', gens := g', drawn := d', toks := t' } := by
  obtain ⟨m, ⟨o, es, ep, ho, r⟩, _⟩ := id I.loc
  obtain ⟨sl, hL⟩ := u.any ho I.free fun z => (hch _ z).2.1 rfl
  exact I.step (ch := ch) hch (fun b o hL hb hc e n => u.keep b o e n (fun z => (List.mem_cons.mp (I.stkSub b z)).elim hL hb) hc) (fun b o _ _ hc e n => u.any e n hc) (fun b o hc e n => u.free b o e n hc) (fun b o hc e => u.there b o e hc) u.tups u.frzs u.tbls (fun m' hm => by
    obtain ⟨o', es', ep', ho', r'⟩ := hm
    rw [ho] at ho'; cases ho'
    exact ⟨_, es', ep', hL, r'⟩) hok hg
/-- an untracked record of ours (an iterator) has turned -/
theorem Inv.turned {t' : Nat} {it : Addr} (I : Inv X pins σ H s) (k : ∀ b o, b ≠ it → s.heap.get? b = some o → h'.get? b = some o) (hn : H it = none) (hL : it ≠ X.env.locals)
    (h1 : it ∈ X.ex ∨ X.s₀.heap.objs.size ≤ it) (h2 : ∀ x c, X.env.cells.lookup x = some c → c ≠ it) (h3 : ∀ p ∈ X.pn ++ pins, p.1 ≠ it) : Inv X pins σ H { s with heap := h', toks := t' } := by
  have nit : ∀ b u, H b = some u → b ≠ it := fun b u e z => by rw [z, hn] at e; cases e
  refine I.step (g' := s.gens) (d' := s.drawn) (ch := [it]) (fun b hb => ?_) (fun b o _ _ hc e _ => k b o (fun z => hc (by simp [z])) e) (fun b o _ _ hc e _ => ⟨o.slots, k b o (fun z => hc (by simp [z])) e⟩) (fun _ _ _ _ n => n)
    (fun b o hc e => ⟨o, k b o (fun z => hc (by simp [z])) e⟩) (fun _ _ e => e) (fun _ _ _ e => e) (fun b ps e => ⟨#[], by rw [e]; simp⟩) (fun m hm => ?_) (fun b u e => ?_) I.bare
  · have e : b = it := by simpa using hb
    subst e
    exact ⟨h1, hL, h2, h3⟩
  · obtain ⟨o, es, ep, ho, r⟩ := hm
    exact ⟨o, es, ep, k _ o (Ne.symm hL) ho, r⟩
  · refine (I.hok b u e).stay (fun c v hc q => k c v ?_ q) (fun _ q => q) fun _ _ q => q
    rcases hc with z | z
    · rw [z]; exact nit b u e
    · exact nit c _ z
theorem Inv.tok (I : Inv X pins σ H s) (t : Nat) : Inv X pins σ H { s with toks := t } := I.un (h' := s.heap) (t' := t) Un.refl I.hok
/-- all objects kept -/
theorem Inv.kept {t' : Nat} (I : Inv X pins σ H s) (k : ∀ b u, s.heap.get? b = some u → h'.get? b = some u) : Inv X pins σ H { s with heap := h', toks := t' } := I.un (Un.kept k) (I.hok.kept k)
/-- a new object laid and tracked -/
theorem Inv.laid {a : Addr} {o : HO} {t' : Nat} (I : Inv X pins σ H s) (k : ∀ b u, s.heap.get? b = some u → h'.get? b = some u) (hp : s.heap.objs.size ≤ a) (new : ObjOk X.prog X.w (upd H a o) h' a o) :
    Inv X pins σ (upd H a o) { s with heap := h', toks := t' } := I.un (Un.laid k hp (I.hok.fresh hp)) (I.hok.laid k hp new)
/-- an object written -/
theorem Inv.write {x e : Addr} {o : HO} {t' : Nat} (I : Inv X pins σ H s) (mu : Mut (H x)) (he : e = x ∨ H e = some (.own x)) (k : ∀ b u, b ≠ e → s.heap.get? b = some u → h'.get? b = some u) (heo : ∃ u, h'.get? e = some u)
    (new : ObjOk X.prog X.w (upd H x o) h' x o) : Inv X pins σ (upd H x o) { s with heap := h', toks := t' } := I.un (Un.write mu he k heo) (I.hok.write mu he k heo new)
/-- forgetting slots, pins -/
theorem Inv.weak {σ' : List (Option V)} (I : Inv X pins σ H s) (hl : σ'.length = σ.length) (w : ∀ (i : Nat) v, σ'[i]? = some (some v) → σ[i]? = some (some v)) : Inv X pins σ' H s :=
  ⟨I.ok, I.os, I.bare, I.base, let ⟨m, hn, hl'⟩ := I.loc; ⟨m, hn, fun i x v e1 e2 e3 => hl' i x v e1 (w i v e2) e3⟩, I.cell, I.free, I.freeC, I.pin, I.hok, hl.trans I.len⟩
theorem Inv.pins_of {pins' : List (Addr × Obj)} (I : Inv X pins σ H s) (h : ∀ p ∈ pins', s.heap.get? p.1 = some p.2 ∧ H p.1 = none ∧ p.1 ≠ X.env.locals ∧ p.1 ∉ X.fs ∧ ∀ v, p.2.data ≠ .cell v) : Inv X pins' σ H s :=
  ⟨I.ok, I.os, I.bare, I.base, I.loc, I.cell, I.free, I.freeC, fun p hp => (List.mem_append.mp hp).elim (fun z => I.pin p (List.mem_append_left _ z)) (h p), I.hok, I.len⟩

theorem nodup_ix {N : List Str} (hN : N.Nodup) {i j : Nat} {x : Str} (a : N[i]? = some x) (b : N[j]? = some x) : i = j := by
  obtain ⟨h1, e1⟩ := List.getElem?_eq_some_iff.mp a
  obtain ⟨h2, e2⟩ := List.getElem?_eq_some_iff.mp b
  exact (List.getElem_inj hN).mp (e1.trans e2.symm)

/-- a name is stored; what changed -/
theorem store_ok2 {M : Model} {A : Around} {E : Value → Shared → Prop} {i : Nat} {x : Str} {v : V} {u : Value} {Q : Unit → Shared → Prop} (I : Inv X pins σ H s) (hN : X.N.Nodup) (hi : X.N[i]? = some x) (hx : Loc X.env.scope x) (r : RelV v u)
    (h : ∀ s', Inv X pins (σ.set i (some v)) H s' → (∃ a, Heap.SameBut a s.heap s'.heap ∧ (a = X.env.locals ∨ X.env.cells.lookup x = some a)) → Q () s') (hf : X.fn x = true ∨ X.env.scope.names.lookup x = some .local := by first | exact .inl rfl | exact .inr rfl | assumption) : wpAny M A (storeName X.env x u) Q E s := by
  obtain ⟨m, hn, hl⟩ := id I.loc
  have hcls : (X.env.scope.kind == .class || (X.env.scope.kind == .module && X.env.locals != X.env.globals)) = false := by rw [I.ok.kind]; rfl
  have hiσ : i < σ.length := by rw [I.len]; exact (List.getElem?_eq_some_iff.mp hi).1
  have cne := I.cne
  have tracked : ∀ {a : Addr} {h' : Heap}, (∃ o, s.heap.get? a = some o ∧ H a = none) → Heap.SameBut a s.heap h' → HOk X.prog X.w H h' := fun {a h'} ha hs b ob e => by
    obtain ⟨_, _, hfree⟩ := ha
    refine (I.hok b ob e).stay (fun c w' hc q => (hs.2 c ?_).trans q) (fun _ q => q) fun _ _ q => q
    rintro rfl
    rcases hc with rfl | hc
    · rw [hfree] at e; cases e
    · rw [hfree] at hc; cases hc
  rcases hx with hk | hk
  · refine wpAny_storeName_local hk hn (fun h' hn' hs => ?_) hcls
    obtain ⟨oL, _, _, hoL, _⟩ := id hn
    refine h _ ⟨I.ok, I.os, I.bare, ⟨fun b o e n hb hx => ?_, fun b o e n hb hx => ?_, I.base.free, fun b o e hx => ?_, I.base.tups, I.base.frzs, I.base.tbls⟩, ⟨_, hn', fun j y v' e1 e2 e3 => ?_⟩, fun y c e => ?_, I.free, I.freeC, fun p hp => ?_, tracked ⟨oL, hoL, I.free⟩ hs, by simpa using I.len⟩ ⟨_, hs, .inl rfl⟩
    · exact (hs.2 b (Nat.ne_of_lt (Nat.lt_of_lt_of_le (Heap.lt_size e) I.ok.above))).trans (I.base.keep b o e n hb hx)
    · obtain ⟨sl, e1⟩ := I.base.slot b o e n hb hx
      exact ⟨sl, (hs.2 b (Nat.ne_of_lt (Nat.lt_of_lt_of_le (Heap.lt_size e) I.ok.above))).trans e1⟩
    · obtain ⟨o', e1⟩ := I.base.there b o e hx
      exact ⟨o', (hs.2 b (Nat.ne_of_lt (Nat.lt_of_lt_of_le (Heap.lt_size e) I.ok.above))).trans e1⟩
    · by_cases hj : j = i
      · subst hj
        rw [hi] at e1; cases e1
        rw [List.getElem?_set_self hiσ] at e2
        cases e2
        exact ⟨u, r, .inl ⟨hk, by simp⟩⟩
      · rw [List.getElem?_set_ne (Ne.symm hj)] at e2
        obtain ⟨u', r', q⟩ := hl j y v' e1 e2 e3
        refine ⟨u', r', ?_⟩
        rcases q with ⟨k, e⟩ | ⟨k, c, e, z⟩
        · refine .inl ⟨k, ?_⟩
          have : y ≠ x := fun e => hj (nodup_ix hN e1 (e ▸ hi))
          simp [this, e]
        · exact .inr ⟨k, c, e, z.sameBut hs (cne y c e)⟩
    · obtain ⟨w', z⟩ := I.cell y c e
      exact ⟨w', z.sameBut hs (cne y c e)⟩
    · obtain ⟨e, n, ne, nf, d⟩ := I.pin p hp
      exact ⟨(hs.2 p.1 ne).trans e, n, ne, nf, d⟩
  · have hfn : X.fn x = true := by
      rcases hf with z | z
      · exact z
      · rw [z] at hk; cases hk
    obtain ⟨c, hc⟩ := I.ok.has x (.inl hk)
    obtain ⟨w', z⟩ := I.cell x c hc
    refine wpAny_storeName_cell I.ok.kind hk hc z (fun h' hc' hs => ?_)
    obtain ⟨oc, hoc, hocd⟩ := id z
    refine h { s with heap := h' } ⟨I.ok, I.os, I.bare, ⟨fun b o e n hb hx => ?_, fun b o e n hb hx => ?_, I.base.free, fun b o e hx => ?_, I.base.tups, I.base.frzs, I.base.tbls⟩, ⟨m, hn.sameBut hs (Ne.symm (cne x c hc)), fun j y v' e1 e2 e3 => ?_⟩, fun y c' e => ?_, I.free, I.freeC, fun p hp => ?_, tracked ⟨oc, hoc, I.freeC x c hc⟩ hs, by simpa using I.len⟩ ⟨c, hs, .inr hc⟩
    · exact (hs.2 b (Nat.ne_of_lt (Nat.lt_of_lt_of_le (Heap.lt_size e) (I.ok.cab x c hfn hc)))).trans (I.base.keep b o e n hb hx)
    · obtain ⟨sl, e1⟩ := I.base.slot b o e n hb hx
      exact ⟨sl, (hs.2 b (Nat.ne_of_lt (Nat.lt_of_lt_of_le (Heap.lt_size e) (I.ok.cab x c hfn hc)))).trans e1⟩
    · obtain ⟨o', e1⟩ := I.base.there b o e hx
      exact ⟨o', (hs.2 b (Nat.ne_of_lt (Nat.lt_of_lt_of_le (Heap.lt_size e) (I.ok.cab x c hfn hc)))).trans e1⟩
    · by_cases hj : j = i
      · subst hj
        rw [hi] at e1; cases e1
        rw [List.getElem?_set_self hiσ] at e2
        cases e2
        exact ⟨u, r, .inr ⟨.inl hk, c, hc, hc'⟩⟩
      · rw [List.getElem?_set_ne (Ne.symm hj)] at e2
        obtain ⟨u', r', q⟩ := hl j y v' e1 e2 e3
        refine ⟨u', r', ?_⟩
        rcases q with q | ⟨k, c', e, z'⟩
        · exact .inl q
        · refine .inr ⟨k, c', e, z'.sameBut hs ?_⟩
          rintro rfl
          exact hj (nodup_ix hN e1 (I.ok.inj _ _ _ e hc ▸ hi))
    · by_cases hcc : c' = c
      · subst hcc; exact ⟨_, hc'⟩
      · obtain ⟨w2, z2⟩ := I.cell y c' e
        exact ⟨w2, z2.sameBut hs hcc⟩
    · obtain ⟨e, n, ne, nf, d⟩ := I.pin p hp
      refine ⟨(hs.2 p.1 ?_).trans e, n, ne, nf, d⟩
      intro q
      rw [q, hoc] at e
      have q' : oc = p.2 := Option.some.inj e
      exact d w' (by rw [← q']; exact hocd)
theorem store_ok {M : Model} {A : Around} {E : Value → Shared → Prop} {i : Nat} {x : Str} {v : V} {u : Value} {Q : Unit → Shared → Prop} (I : Inv X pins σ H s) (hN : X.N.Nodup) (hi : X.N[i]? = some x) (hx : Loc X.env.scope x) (r : RelV v u)
    (h : ∀ s', Inv X pins (σ.set i (some v)) H s' → Q () s') (hf : X.fn x = true ∨ X.env.scope.names.lookup x = some .local := by first | exact .inl rfl | exact .inr rfl | assumption) : wpAny M A (storeName X.env x u) Q E s :=
  store_ok2 I hN hi hx r (fun s' I' _ => h s' I') hf
/-- behind a call or a block, the state as it is -/
theorem Inv.call' {s' : Shared} {ch : List Addr} (I : Inv X pins σ H s) (ho : s'.os = s.os) (u : Un (frs X.stack) ch H H' s.heap s'.heap) (hok : HOk X.prog X.w H' s'.heap) (hg : AllBare s'.gens)
    (hch : ∀ b ∈ ch, (b ∈ X.ex ∨ X.s₀.heap.objs.size ≤ b) ∧ b ≠ X.env.locals ∧ (∀ x c, X.env.cells.lookup x = some c → c ≠ b) ∧ ∀ p ∈ X.pn ++ pins, p.1 ≠ b) : Inv X pins σ H' s' := by
  obtain ⟨h', g', d', t', o'⟩ := s'
  have e : o' = s.os := ho
  subst e
  exact I.call (g' := g') (t' := t') (d' := d') u hok hg hch
end

/-! ### the judgements -/
/-- an exception: its class, its own dict's address (where it has one), the abstract heap behind it -/
abbrev XK := Value → Option Addr → Hp → Prop
abbrev St := List (Option V)
abbrev VK := V → Hp → Prop
/-- an expression's reading; a test's; an argument list's -/
abbrev TE := St → Hp → VK → Prop
abbrev TT := St → Hp → (Bool → Hp → Prop) → Prop
abbrev TA := St → Hp → (List V → Hp → Prop) → Prop
/-- what is wanted behind a statement -/
structure Ends where
  nx : St → Hp → Prop
  rt : VK
  bk : St → Hp → Prop := fun _ _ => False
  ct : St → Hp → Prop := fun _ _ => False
abbrev TS := Ends → St → Hp → Prop

def EP (X : Cx) (pins : List (Addr × Obj)) (σ : St) (Q : VK) (u : Value) (s' : Shared) : Prop := ∃ v H', Inv X pins σ H' s' ∧ RelV v u ∧ Q v H'
def TP (X : Cx) (pins : List (Addr × Obj)) (σ : St) (Q : Bool → Hp → Prop) (b : Bool) (s' : Shared) : Prop := ∃ H', Inv X pins σ H' s' ∧ Q b H'
def AP (X : Cx) (pins : List (Addr × Obj)) (σ : St) (Q : List V → Hp → Prop) (us : List Value) (s' : Shared) : Prop := ∃ vs H', Inv X pins σ H' s' ∧ Vals vs us ∧ Q vs H'
def SP (X : Cx) (pins : List (Addr × Obj)) (D : Ends) (f : Flow) (s' : Shared) : Prop :=
  match f with
  | .next => ∃ σ' H', Inv X pins σ' H' s' ∧ D.nx σ' H'
  | .brk => ∃ σ' H', Inv X pins σ' H' s' ∧ D.bk σ' H'
  | .cont => ∃ σ' H', Inv X pins σ' H' s' ∧ D.ct σ' H'
  | .ret u => ∃ v σ' H', Inv X pins σ' H' s' ∧ RelV v u ∧ D.rt v H'

def PE (X : Cx) (e : Expr) (t : TE) : Prop :=
  ∀ (pins : List (Addr × Obj)) (s : Shared) (σ : St) (H : Hp) (Q : VK), Inv X pins σ H s → t σ H Q → wpAny (model X.prog X.w) X.A (eval e X.env) (EP X pins σ Q) X.xe s
def PT (X : Cx) (e : Expr) (t : TT) : Prop :=
  ∀ (pins : List (Addr × Obj)) (s : Shared) (σ : St) (H : Hp) (Q : Bool → Hp → Prop), Inv X pins σ H s → t σ H Q → wpAny (model X.prog X.w) X.A (isTrue e X.env (eval e X.env)) (TP X pins σ Q) X.xe s
/-- a test whatever its 'whole' is (and, or) -/
def PW (X : Cx) (e : Expr) (t : TT) : Prop :=
  ∀ (whole : Sem Value) (pins : List (Addr × Obj)) (s : Shared) (σ : St) (H : Hp) (Q : Bool → Hp → Prop), Inv X pins σ H s → t σ H Q → wpAny (model X.prog X.w) X.A (isTrue e X.env whole) (TP X pins σ Q) X.xe s
theorem PW.pt {X : Cx} {e : Expr} {t : TT} (h : PW X e t) : PT X e t := h _
/-- an argument list (no star), from the left -/
def PA (X : Cx) (es : List Expr) (t : TA) : Prop :=
  ∀ (pos : Pos) (pins : List (Addr × Obj)) (s : Shared) (σ : St) (H : Hp) (Q : List V → Hp → Prop), Inv X pins σ H s → t σ H Q → wpAny (model X.prog X.w) X.A (spliced (backTo pos (starEach es X.env))) (AP X pins σ Q) X.xe s
def PS (X : Cx) (st : Stmt) (t : TS) : Prop :=
  ∀ (pins : List (Addr × Obj)) (s : Shared) (σ : St) (H : Hp) (D : Ends), Inv X pins σ H s → t D σ H → wpAny (model X.prog X.w) X.A (exec st X.env) (SP X pins D) X.xe s
def PSs (X : Cx) (st : List Stmt) (t : TS) : Prop :=
  ∀ (pins : List (Addr × Obj)) (s : Shared) (σ : St) (H : Hp) (D : Ends), Inv X pins σ H s → t D σ H → wpAny (model X.prog X.w) X.A (execs st X.env) (SP X pins D) X.xe s
/-- weaken the end -/
theorem thn {α : Type} {t : Sem α} {Q Q' : α → Shared → Prop} {M : Model} {A : Around} {E : Value → Shared → Prop} {s : Shared} (h : wpAny M A t Q E s) (hQ : ∀ a s, Q a s → Q' a s) : wpAny M A t Q' E s := wpAny_mono h hQ fun _ _ x => x
end L2

namespace L2
open PySem PySem.Spec PyProof.Rows
section
variable {X : Cx}

/-- two expressions in a row -/
theorem bin {a b : Expr} {ta tb : TE} (ha : PE X a ta) (hb : PE X b tb) {pins : List (Addr × Obj)} {s : Shared} {σ : St} {H : Hp} {R : V → V → Hp → Prop} (I : Inv X pins σ H s) (h : ta σ H fun x H1 => tb σ H1 fun y H2 => R x y H2)
    {α : Type} {Q : α → Shared → Prop} {f : Value → Value → Sem α}
    (hf : ∀ v u s2 x y H2, Inv X pins σ H2 s2 → RelV x v → RelV y u → R x y H2 → wpAny (model X.prog X.w) X.A (f v u) Q X.xe s2) :
    wpAny (model X.prog X.w) X.A (eval a X.env) (fun v s₁ => wpAny (model X.prog X.w) X.A (eval b X.env) (fun u s₂ => wpAny (model X.prog X.w) X.A (f v u) Q X.xe s₂) X.xe s₁) X.xe s := by
  refine thn (ha pins s σ H _ I h) fun v s1 ⟨x, H1, I1, r1, q1⟩ => ?_
  refine thn (hb pins s1 σ H1 _ I1 q1) fun u s2 ⟨y, H2, I2, r2, q2⟩ => ?_
  exact hf v u s2 x y H2 I2 r1 r2 q2

/-! ### names and constants -/
def tVar (i : Nat) : TE := fun σ H Q => ∃ v, σ[i]? = some (some v) ∧ Q v H
def tC (v : V) : TE := fun _ H Q => Q v H
theorem pe_var {i : Nat} {x : Str} {pos : Pos} (hN : X.N[i]? = some x) (hv : Vis X.env.scope x) (hd : (x == ("__debug__" : Str)) = false := by decide) (hcd : (x == ("__classdict__" : Str)) = false := by decide) : PE X (.Name x pos) (tVar i) := by
  intro pins s σ H Q I h
  obtain ⟨v, e, h⟩ := h
  obtain ⟨m, hn, hl⟩ := I.loc
  obtain ⟨u, r, l⟩ := hl i x v hN e hv
  have fin : EP X pins σ Q u s := ⟨v, H, I, r, h⟩
  rcases l with ⟨hk, hm⟩ | ⟨hk, c, hc, hcell⟩
  · exact wpAny_Name (wpAny_loadName_local I.ok.kind hk hn hm fin) hd
  · rcases hk with hk | hk
    · exact wpAny_Name (wpAny_loadName_cell I.ok.kind hk hc hcell fin) hd
    · exact wpAny_Name (wpAny_loadName_free I.ok.kind hk hc hcell fin hcd) hd
theorem pe_int {i j pos} : PE X (.Constant (.int i) j pos) (tC (.int i)) := fun _ _ _ H _ I h => wpAny_Constant_int ⟨.int i, H, I.tok _, ⟨_, rfl⟩, h⟩
theorem pe_bl {b j pos} : PE X (.Constant (.bool b) j pos) (tC (.bl b)) := fun _ _ _ H _ I h => Constant_bool ⟨.bl b, H, I, rfl, h⟩
theorem pe_non {j pos} : PE X (.Constant .none j pos) (tC .non) := fun _ _ _ H _ I h => Constant_none ⟨.non, H, I, rfl, h⟩
theorem pe_str {x j pos} : PE X (.Constant (.str x) j pos) (tC (.str x)) := fun _ _ _ H _ I h => Calls.Constant_str ⟨.str x, H, I.tok _, ⟨_, rfl⟩, h⟩

/-- a global name of the def -/
def Gl (X : Cx) (x : Str) : Prop := X.env.kindOf x = some .globalImplicit
theorem ld_glob {E : Value → Shared → Prop} {pins : List (Addr × Obj)} {s : Shared} {σ : St} {H : Hp} {x : Str} {u : Value} {pos : Pos} {Q : Value → Shared → Prop} (I : Inv X pins σ H s) (hg : Gl X x) (hm : X.mg x = some u) (h : Q u s)
    (hd : (x == ("__debug__" : Str)) = false := by decide) : wpAny (model X.prog X.w) X.A (eval (.Name x pos) X.env) Q E s :=
  Calls.Name_function_global I.ok.kind hg (Calls.loadGlobal_global (by rw [I.ok.glob]; exact I.mod.glob.keeps I.bk) hm h) hd
theorem ld_blt {E : Value → Shared → Prop} {pins : List (Addr × Obj)} {s : Shared} {σ : St} {H : Hp} {x : Str} {u : Value} {pos : Pos} {Q : Value → Shared → Prop} (I : Inv X pins σ H s) (hg : Gl X x) (hm : X.mg x = none) (hv : bootBuiltins x = some u) (h : Q u s)
    (hn : x ≠ "__name__" := by decide) (hd : (x == ("__debug__" : Str)) = false := by decide) : wpAny (model X.prog X.w) X.A (eval (.Name x pos) X.env) Q E s := by
  obtain ⟨mb, h1, h2⟩ := I.mod.blt
  exact Calls.Name_function_global I.ok.kind hg (Calls.loadGlobal_builtin (by rw [I.ok.glob]; exact I.mod.glob.keeps I.bk) hm (by rw [I.ok.blt]; exact h1.keeps I.bk) ((h2 x hn).trans hv) h) hd
/-- a module's constant, a class, a function, as a value -/
theorem pe_glob {x : Str} {v : V} {u : Value} {pos : Pos} (hg : Gl X x) (hm : X.mg x = some u) (r : RelV v u) (hd : (x == ("__debug__" : Str)) = false := by decide) : PE X (.Name x pos) (tC v) :=
  fun _ _ _ H _ I h => ld_glob I hg hm ⟨v, H, I, r, h⟩ hd
theorem pe_bltn {x : Str} {v : V} {u : Value} {pos : Pos} (hg : Gl X x) (hm : X.mg x = none) (hv : bootBuiltins x = some u) (r : RelV v u) (hn : x ≠ "__name__" := by decide) (hd : (x == ("__debug__" : Str)) = false := by decide) : PE X (.Name x pos) (tC v) :=
  fun _ _ _ H _ I h => ld_blt I hg hm hv ⟨v, H, I, r, h⟩ hn hd

/-! ### arithmetic -/
/-- two ints -/
def t2I (ta tb : TE) (k : Int → Int → Hp → Prop) : St → Hp → Prop := fun σ H => ta σ H fun x H1 => tb σ H1 fun y H2 => ∃ i j, x = .int i ∧ y = .int j ∧ k i j H2
def tAdd (ta tb : TE) : TE := fun σ H Q => t2I ta tb (fun i j H2 => Q (.int (i + j)) H2) σ H
def tSub (ta tb : TE) : TE := fun σ H Q => t2I ta tb (fun i j H2 => Q (.int (i - j)) H2) σ H
/-- the left factor below 2^64 -/
def tMul (ta tb : TE) : TE := fun σ H Q => t2I ta tb (fun i j H2 => (-(2 ^ 64) < i ∧ i < 2 ^ 64) ∧ Q (.int (i * j)) H2) σ H
variable {a b : Expr} {ta tb : TE} {pos : Pos}
theorem pe_add (ha : PE X a ta) (hb : PE X b tb) : PE X (.BinOp a .Add b pos) (tAdd ta tb) := by
  intro pins s σ H Q I h
  refine wpAny_BinOp (bin ha hb I h fun v u s2 x y H2 I2 rx ry q => ?_)
  obtain ⟨i, j, rfl, rfl, q⟩ := q
  obtain ⟨t, rfl⟩ := rx
  obtain ⟨t', rfl⟩ := ry
  exact add_int ⟨.int _, H2, I2.tok _, ⟨_, rfl⟩, q⟩
theorem pe_sub (ha : PE X a ta) (hb : PE X b tb) : PE X (.BinOp a .Sub b pos) (tSub ta tb) := by
  intro pins s σ H Q I h
  refine wpAny_BinOp (bin ha hb I h fun v u s2 x y H2 I2 rx ry q => ?_)
  obtain ⟨i, j, rfl, rfl, q⟩ := q
  obtain ⟨t, rfl⟩ := rx
  obtain ⟨t', rfl⟩ := ry
  exact sub_int ⟨.int _, H2, I2.tok _, ⟨_, rfl⟩, q⟩
theorem pe_mul (ha : PE X a ta) (hb : PE X b tb) : PE X (.BinOp a .Mult b pos) (tMul ta tb) := by
  intro pins s σ H Q I h
  refine wpAny_BinOp (bin ha hb I h fun v u s2 x y H2 I2 rx ry q => ?_)
  obtain ⟨i, j, rfl, rfl, ⟨q1, q2⟩, q⟩ := q
  obtain ⟨t, rfl⟩ := rx
  obtain ⟨t', rfl⟩ := ry
  exact mul_int ⟨.int _, H2, I2.tok _, ⟨_, rfl⟩, q⟩ (.of_left (intBits_le_64 q1 q2))

/-! ### comparisons -/
def PC (X : Cx) (op : CmpOp) (a b : Expr) (t : TE) : Prop :=
  ∀ (pins : List (Addr × Obj)) (s : Shared) (σ : St) (H : Hp) (Q : VK), Inv X pins σ H s → t σ H Q →
    wpAny (model X.prog X.w) X.A (eval a X.env) (fun v s₁ => wpAny (model X.prog X.w) X.A (eval b X.env) (fun u s₂ => wpAny (model X.prog X.w) X.A (compareOp op v u) (EP X pins σ Q) X.xe s₂) X.xe s₁) X.xe s
theorem nobehind (b : Expr) {op : CmpOp} (h : op ≠ .In) (h2 : op ≠ .NotIn) : behindInMarks op b = false := by
  have e1 : (op == CmpOp.In) = false := by cases op <;> first | rfl | exact absurd rfl h
  have e2 : (op == CmpOp.NotIn) = false := by cases op <;> first | rfl | exact absurd rfl h2
  cases b <;> simp [behindInMarks, e1, e2]
def tCmp (p : Int → Int → Bool) (ta tb : TE) : TE := fun σ H Q => t2I ta tb (fun i j H2 => Q (.bl (p i j)) H2) σ H
abbrev tLt : TE → TE → TE := tCmp fun i j => decide (i < j)
abbrev tLe : TE → TE → TE := tCmp fun i j => decide (i ≤ j)
abbrev tGt : TE → TE → TE := tCmp fun i j => decide (j < i)
abbrev tGe : TE → TE → TE := tCmp fun i j => decide (j ≤ i)
abbrev tEqI : TE → TE → TE := tCmp fun i j => decide (i = j)
abbrev tNeI : TE → TE → TE := tCmp fun i j => !decide (i = j)
/-- a comparison of two ints, by its rule -/
theorem pc_int {op : CmpOp} {p : Int → Int → Bool} (ha : PE X a ta) (hb : PE X b tb)
    (rule : ∀ (i j : Int) (t u : Tok) (Q : Value → Shared → Prop) (s : Shared), Q (.bool (p i j)) s → wpAny (model X.prog X.w) X.A (compareOp op (.int i t) (.int j u)) Q X.xe s) : PC X op a b (tCmp p ta tb) := by
  intro pins s σ H Q I h
  refine bin ha hb I h fun v u s2 x y H2 I2 rx ry q => ?_
  obtain ⟨i, j, rfl, rfl, q⟩ := q
  obtain ⟨t, rfl⟩ := rx
  obtain ⟨t', rfl⟩ := ry
  exact rule i j t t' _ s2 ⟨.bl _, H2, I2, rfl, q⟩
theorem pc_lt (ha : PE X a ta) (hb : PE X b tb) : PC X .Lt a b (tLt ta tb) := pc_int ha hb fun _ _ _ _ _ _ h => lt_int h
theorem pc_le (ha : PE X a ta) (hb : PE X b tb) : PC X .LtE a b (tLe ta tb) := pc_int ha hb fun _ _ _ _ _ _ h => le_int h
theorem pc_gt (ha : PE X a ta) (hb : PE X b tb) : PC X .Gt a b (tGt ta tb) := pc_int ha hb fun _ _ _ _ _ _ h => gt_int h
theorem pc_ge (ha : PE X a ta) (hb : PE X b tb) : PC X .GtE a b (tGe ta tb) := pc_int ha hb fun _ _ _ _ _ _ h => ge_int h
theorem pc_eqI (ha : PE X a ta) (hb : PE X b tb) : PC X .Eq a b (tEqI ta tb) := pc_int ha hb fun _ _ _ _ _ _ h => eq_int (by rw [Bool.beq_eq_decide_eq]; exact h)
theorem pc_neI (ha : PE X a ta) (hb : PE X b tb) : PC X .NotEq a b (tNeI ta tb) := pc_int ha hb fun _ _ _ _ _ _ h => ne_int (by rw [bne, Bool.beq_eq_decide_eq]; exact h)
/-- is None -/
def tIsN (ta : TE) : TE := fun σ H Q => ta σ H fun x H1 => Q (.bl (decide (x = .non))) H1
def tNotN (ta : TE) : TE := fun σ H Q => ta σ H fun x H1 => Q (.bl (!decide (x = .non))) H1
theorem RelV.none_iff {x : V} {v : Value} (r : RelV x v) : (v == Value.none) = decide (x = .non) := by
  cases x with
  | non => cases r; rfl
  | bl _ => cases r; rfl
  | int _ => obtain ⟨t, rfl⟩ := r; rfl
  | str _ => obtain ⟨t, rfl⟩ := r; rfl
  | byt _ => obtain ⟨t, rfl⟩ := r; rfl
  | flt _ => obtain ⟨t, rfl⟩ := r; rfl
  | ref _ => cases r; rfl
  | ty _ => cases r; rfl
theorem pc_isN {j pos'} (ha : PE X a ta) : PC X .Is a (.Constant .none j pos') (tIsN ta) := by
  intro pins s σ H Q I h
  refine thn (ha pins s σ H _ I h) fun v s1 ⟨x, H1, I1, r1, q1⟩ => ?_
  exact Constant_none (is_none_gen ⟨.bl _, H1, I1, by rw [r1.none_iff]; rfl, q1⟩)
theorem pc_notN {j pos'} (ha : PE X a ta) : PC X .IsNot a (.Constant .none j pos') (tNotN ta) := by
  intro pins s σ H Q I h
  refine thn (ha pins s σ H _ I h) fun v s1 ⟨x, H1, I1, r1, q1⟩ => ?_
  exact Constant_none (isnot_none_gen ⟨.bl _, H1, I1, by rw [r1.none_iff]; rfl, q1⟩)
/-- a comparison as a value, as a test -/
def tB (t : TE) : TT := fun σ H Q => t σ H fun x H1 => ∃ c, x = .bl c ∧ Q c H1
theorem pe_cmp {op : CmpOp} {t : TE} (h : PC X op a b t) (h1 : behindInMarks op b = false := by first | exact nobehind _ (by decide) (by decide) | rfl) : PE X (.Compare a [op] [b] pos) t := fun pins s σ H Q I hw => wpAny_Compare1 (h pins s σ H Q I hw) h1
theorem pt_cmp {op : CmpOp} {t : TE} (h : PC X op a b t) (h1 : behindInMarks op b = false := by first | exact nobehind _ (by decide) (by decide) | rfl) : PT X (.Compare a [op] [b] pos) (tB t) := by
  intro pins s σ H Q I hw
  refine wpAny_isTrue_Compare1 (thn (h pins s σ H _ I hw) fun v s1 h1 => thn h1 fun u s2 h2 => thn h2 fun c s3 ⟨x, H1, I1, r1, q1⟩ => ?_) h1
  obtain ⟨d, rfl, q⟩ := q1
  cases r1
  exact wpAny_truthy_bool ⟨H1, I1, q⟩
/-- an expression whose value is a bool, as a test -/
theorem pt_val {e : Expr} {t : TE} (h : PE X e t) (he : ∀ whole, isTrue e X.env whole = (do let v ← whole; standAt e.pos; holding [v] (truthy v)) := by intro _; rfl) : PT X e (tB t) := by
  intro pins s σ H Q I hw
  refine isTrue_plain (thn (h pins s σ H _ I hw) fun v s1 ⟨x, H1, I1, r1, q1⟩ => ?_) (he _)
  obtain ⟨d, rfl, q⟩ := q1
  cases r1
  exact wpAny_truthy_bool ⟨H1, I1, q⟩

/-! ### and, or, not -/
variable {tA tB' : TT} {rest : List Expr}
def tAnd (t u : TT) : TT := fun σ H Q => t σ H fun c H1 => if c = true then u σ H1 Q else Q false H1
def tOr (t u : TT) : TT := fun σ H Q => t σ H fun c H1 => if c = true then Q true H1 else u σ H1 Q
def tNot (t : TT) : TT := fun σ H Q => t σ H fun c H1 => Q (!c) H1
theorem pw_and1 (ha : PT X a tA) : PW X (.BoolOp .And [a] pos) tA := by
  intro wh pins s σ H Q I h
  refine isTrue_and (thn (ha pins s σ H Q I h) fun c s1 e => ?_)
  cases c with
  | true => exact isTrue_and_nil e
  | false => exact e
theorem pw_or1 (ha : PT X a tA) : PW X (.BoolOp .Or [a] pos) tA := by
  intro wh pins s σ H Q I h
  refine isTrue_or (thn (ha pins s σ H Q I h) fun c s1 e => ?_)
  cases c with
  | false => exact isTrue_or_nil e
  | true => exact e
theorem pw_and (ha : PT X a tA) (hb : PW X (.BoolOp .And (b :: rest) pos) tB') : PW X (.BoolOp .And (a :: b :: rest) pos) (tAnd tA tB') := by
  intro wh pins s σ H Q I h
  refine isTrue_and (thn (ha pins s σ H _ I h) fun c s1 ⟨H1, I1, q1⟩ => ?_)
  cases c with
  | true => exact hb wh pins s1 σ H1 Q I1 q1
  | false => exact ⟨H1, I1, q1⟩
theorem pw_or (ha : PT X a tA) (hb : PW X (.BoolOp .Or (b :: rest) pos) tB') : PW X (.BoolOp .Or (a :: b :: rest) pos) (tOr tA tB') := by
  intro wh pins s σ H Q I h
  refine isTrue_or (thn (ha pins s σ H _ I h) fun c s1 ⟨H1, I1, q1⟩ => ?_)
  cases c with
  | true => exact ⟨H1, I1, q1⟩
  | false => exact hb wh pins s1 σ H1 Q I1 q1
theorem pt_not (ha : PT X a tA) : PT X (.UnaryOp .Not a pos) (tNot tA) := by
  intro pins s σ H Q I h
  exact isTrue_not (ha pins s σ H (fun c H1 => Q (!c) H1) I h)
/-- .. as values (bools) -/
def tAndV (ta tb : TE) : TE := fun σ H Q => ta σ H fun x H1 => ∃ c, x = .bl c ∧ if c = true then tb σ H1 Q else Q (.bl false) H1
def tOrV (ta tb : TE) : TE := fun σ H Q => ta σ H fun x H1 => ∃ c, x = .bl c ∧ if c = true then Q (.bl true) H1 else tb σ H1 Q
def tNotV (ta : TE) : TE := fun σ H Q => ta σ H fun x H1 => ∃ c, x = .bl c ∧ Q (.bl (!c)) H1
theorem pe_one {op} {t : TE} (h : PE X a t) : PE X (.BoolOp op [a] pos) t := fun pins s σ H Q I hw => BoolOp_one (h pins s σ H Q I hw)
theorem pe_and (ha : PE X a ta) (hb : PE X (.BoolOp .And (b :: rest) pos) tb) : PE X (.BoolOp .And (a :: b :: rest) pos) (tAndV ta tb) := by
  intro pins s σ H Q I h
  refine BoolOp_and (thn (ha pins s σ H _ I h) fun v s1 ⟨x, H1, I1, r1, q1⟩ => ?_)
  obtain ⟨c, rfl, q1⟩ := q1
  cases r1
  refine wpAny_truthy_bool ?_
  cases c with
  | true => exact hb pins s1 σ H1 Q I1 q1
  | false => exact ⟨.bl false, H1, I1, rfl, q1⟩
theorem pe_or (ha : PE X a ta) (hb : PE X (.BoolOp .Or (b :: rest) pos) tb) : PE X (.BoolOp .Or (a :: b :: rest) pos) (tOrV ta tb) := by
  intro pins s σ H Q I h
  refine BoolOp_or (thn (ha pins s σ H _ I h) fun v s1 ⟨x, H1, I1, r1, q1⟩ => ?_)
  obtain ⟨c, rfl, q1⟩ := q1
  cases r1
  refine wpAny_truthy_bool ?_
  cases c with
  | false => exact hb pins s1 σ H1 Q I1 q1
  | true => exact ⟨.bl true, H1, I1, rfl, q1⟩
theorem pe_not (ha : PE X a ta) : PE X (.UnaryOp .Not a pos) (tNotV ta) := by
  intro pins s σ H Q I h
  refine UnaryOp_ (thn (ha pins s σ H _ I h) fun v s1 ⟨x, H1, I1, r1, q1⟩ => ?_)
  obtain ⟨c, rfl, q1⟩ := q1
  cases r1
  exact not_of (wpAny_truthy_bool ⟨.bl (!c), H1, I1, rfl, q1⟩)
/-- a if t else b -/
def tIf (t : TT) (ta tb : TE) : TE := fun σ H Q => t σ H fun c H1 => if c = true then ta σ H1 Q else tb σ H1 Q
theorem pe_ifExp {c : Expr} (hc : PT X c tA) (ha : PE X a ta) (hb : PE X b tb) : PE X (.IfExp c a b pos) (tIf tA ta tb) := by
  intro pins s σ H Q I h
  refine wpAny_IfExp (thn (hc pins s σ H _ I h) fun d s1 ⟨H1, I1, q1⟩ => ?_)
  cases d with
  | true => exact ha pins s1 σ H1 Q I1 q1
  | false => exact hb pins s1 σ H1 Q I1 q1
end
end L2

namespace L2
open PySem PySem.Spec PyProof.Rows

/-! ### a list, a tuple that is read: tracked, frozen, or an object of the module -/
def SqL (K : PySem.W.Frag) (H : Hp) (a : Addr) (xs : List V) : Prop :=
  Rd H a (.lst xs) ∨
    ∃ (o : Obj) (its : Array Value) (n : Nat), K.lookup a = some o ∧ o.cls = .type "list" ∧ o.dict = none ∧ o.data = .seq its n ∧ its.size ≤ sizeLine ∧ Vals xs its.toList
def SqT (K : PySem.W.Frag) (H : Hp) (a : Addr) (xs : List V) : Prop :=
  Rd H a (.tup xs) ∨
    ∃ (o : Obj) (its : Array Value) (n : Nat), K.lookup a = some o ∧ o.cls = .type "tuple" ∧ o.data = .seq its n ∧ its.size ≤ sizeLine ∧ Vals xs its.toList
def absV : Value → Option V
  | .none => some .non
  | .bool b => some (.bl b)
  | .int i _ => some (.int i)
  | .str x _ => some (.str x)
  | .bytes b _ => some (.byt b)
  | .float b _ => some (.flt b)
  | .ref a => some (.ref a)
  | .type n => some (.ty n)
  | _ => none
theorem RelV.abs {x : V} {u : Value} (r : RelV x u) : absV u = some x := by
  cases x with
  | non => cases r; rfl
  | bl _ => cases r; rfl
  | int _ => obtain ⟨t, rfl⟩ := r; rfl
  | str _ => obtain ⟨t, rfl⟩ := r; rfl
  | byt _ => obtain ⟨t, rfl⟩ := r; rfl
  | flt _ => obtain ⟨t, rfl⟩ := r; rfl
  | ref _ => cases r; rfl
  | ty _ => cases r; rfl
theorem RelV.inj {x y : V} {u : Value} (r : RelV x u) (q : RelV y u) : x = y := Option.some.inj (r.abs.symm.trans q.abs)
theorem Vals.inj : ∀ {xs ys : List V} {us : List Value}, Vals xs us → Vals ys us → xs = ys
  | _, _, _, .nil, .nil => rfl
  | _, _, _, .cons r t, .cons r' t' => by rw [r.inj r', Vals.inj t t']
section
variable {X : Cx} {pins : List (Addr × Obj)} {σ : St} {H : Hp} {s : Shared} {a : Addr} {xs ys : List V}
theorem SqL.of {K : PySem.W.Frag} (h : H a = some (.lst xs)) : SqL K H a xs := .inl (.inl h)
theorem SqT.of {K : PySem.W.Frag} (h : H a = some (.tup xs)) : SqT K H a xs := .inl (.inl h)
theorem Inv.list (I : Inv X pins σ H s) (h : SqL X.K H a xs) : ∃ its : List Value, Vals xs its ∧ PlainL s.heap a its.toArray ∧ xs.length ≤ sizeLine := by
  rcases h with h | ⟨o, its, n, hk, hc, hd, hs, hz, r⟩
  · obtain ⟨z, its, n, r, e⟩ := h.ok I.hok
    exact ⟨its, r, ⟨_, n, e, rfl, rfl, rfl⟩, z⟩
  · refine ⟨its.toList, r, ⟨o, n, I.kIn a o hk, hc, hd, by simpa using hs⟩, ?_⟩
    have e := r.length
    simp only [Array.length_toList] at e
    omega
theorem Inv.tuple (I : Inv X pins σ H s) (h : SqT X.K H a xs) : ∃ its : List Value, Vals xs its ∧ IsTup s.heap a its.toArray ∧ xs.length ≤ sizeLine := by
  rcases h with h | ⟨o, its, n, hk, hc, hs, hz, r⟩
  · obtain ⟨z, its, r, p⟩ := h.ok I.hok
    exact ⟨its, r, p, z⟩
  · refine ⟨its.toList, r, ⟨o, I.kIn a o hk, hc, n, by simpa using hs⟩, ?_⟩
    have e := r.length
    simp only [Array.length_toList] at e
    omega
theorem Inv.list_inj (I : Inv X pins σ H s) (h : SqL X.K H a xs) (h' : SqL X.K H a ys) : xs = ys := by
  obtain ⟨its, r, ⟨o, n, e, _, _, d⟩, _⟩ := I.list h
  obtain ⟨its', r', ⟨o', n', e', _, _, d'⟩, _⟩ := I.list h'
  rw [e] at e'; cases e'
  rw [d] at d'
  injection d' with d1 _
  have : its = its' := by simpa using congrArg Array.toList d1
  subst this
  exact r.inj r'
theorem Inv.tuple_inj (I : Inv X pins σ H s) (h : SqT X.K H a xs) (h' : SqT X.K H a ys) : xs = ys := by
  obtain ⟨its, r, ⟨o, e, _, n, d⟩, _⟩ := I.tuple h
  obtain ⟨its', r', ⟨o', e', _, n', d'⟩, _⟩ := I.tuple h'
  rw [e] at e'; cases e'
  rw [d] at d'
  injection d' with d1 _
  have : its = its' := by simpa using congrArg Array.toList d1
  subst this
  exact r.inj r'
end

/-! ### another wish about exceptions -/
abbrev Cx.wish (X : Cx) (E : Value → Shared → Prop) : Cx := { X with xe := E }
/-- no exception leaves -/
abbrev Cx.nox (X : Cx) : Cx := X.wish fun _ _ => False
theorem Cx.Ok.wish {X : Cx} (ok : X.Ok) (E : Value → Shared → Prop) : (X.wish E).Ok :=
  ⟨ok.mod, ok.kind, ok.glob, ok.blt, ok.above, ok.inj, ok.has, ok.cab, ok.hd, ok.frames, ok.stk, ok.exf, ok.bs, ok.bsz, ok.noex, ok.exfs, ok.funs, ok.frf⟩
theorem Cx.Ok.unwish {X : Cx} {E : Value → Shared → Prop} (ok : (X.wish E).Ok) : X.Ok :=
  ⟨ok.mod, ok.kind, ok.glob, ok.blt, ok.above, ok.inj, ok.has, ok.cab, ok.hd, ok.frames, ok.stk, ok.exf, ok.bs, ok.bsz, ok.noex, ok.exfs, ok.funs, ok.frf⟩
section
variable {X : Cx} {pins : List (Addr × Obj)} {σ : St} {H : Hp} {s : Shared} {E : Value → Shared → Prop}
theorem Inv.wish (I : Inv X pins σ H s) (E : Value → Shared → Prop) : Inv (X.wish E) pins σ H s := ⟨I.ok.wish E, I.os, I.bare, I.base, I.loc, I.cell, I.free, I.freeC, I.pin, I.hok, I.len⟩
theorem Inv.unwish (I : Inv (X.wish E) pins σ H s) : Inv X pins σ H s := ⟨I.ok.unwish, I.os, I.bare, I.base, I.loc, I.cell, I.free, I.freeC, I.pin, I.hok, I.len⟩
theorem SP.unwish {D : Ends} {f : Flow} {s' : Shared} (h : SP (X.wish E) pins D f s') : SP X pins D f s' := by
  cases f with
  | next => obtain ⟨σ', H', I, q⟩ := h; exact ⟨σ', H', I.unwish, q⟩
  | brk => obtain ⟨σ', H', I, q⟩ := h; exact ⟨σ', H', I.unwish, q⟩
  | cont => obtain ⟨σ', H', I, q⟩ := h; exact ⟨σ', H', I.unwish, q⟩
  | ret u => obtain ⟨v, σ', H', I, r, q⟩ := h; exact ⟨v, σ', H', I.unwish, r, q⟩
theorem PE.nox {e : Expr} {t : TE} (h : PE X.nox e t) : PE X e t := fun pins s σ H Q I hw =>
  wpAny_mono (h pins s σ H Q (I.wish _) hw) (fun _ _ ⟨v, H', I', r, q⟩ => ⟨v, H', I'.unwish, r, q⟩) fun _ _ z => False.elim z
theorem PT.nox {e : Expr} {t : TT} (h : PT X.nox e t) : PT X e t := fun pins s σ H Q I hw =>
  wpAny_mono (h pins s σ H Q (I.wish _) hw) (fun _ _ ⟨H', I', q⟩ => ⟨H', I'.unwish, q⟩) fun _ _ z => False.elim z
theorem PSs.nox {st : List Stmt} {t : TS} (h : PSs X.nox st t) : PSs X st t := fun pins s σ H D I hw =>
  wpAny_mono (h pins s σ H D (I.wish _) hw) (fun _ _ q => q.unwish) fun _ _ z => False.elim z
end

/-! ### blocks and small statements -/
section
variable {X : Cx} {st : Stmt} {rest : List Stmt} {t u : TS} {e : Expr} {te : TE} {pos : Pos}
def tNext : TS := fun D σ H => D.nx σ H
def tSeq (t u : TS) : TS := fun D σ H => t { D with nx := u D } σ H
theorem pss_nil : PSs X [] tNext := fun _ _ σ H _ I h => wpAny_execs_nil ⟨σ, H, I, h⟩
theorem pss_cons (h1 : PS X st t) (h2 : PSs X rest u) : PSs X (st :: rest) (tSeq t u) := by
  intro pins s σ H D I h
  refine wpAny_execs_cons (thn (h1 pins s σ H { D with nx := u D } I h) fun f s1 q => ?_)
  cases f with
  | next =>
    obtain ⟨σ', H', I', q⟩ := q
    exact h2 pins s1 σ' H' D I' q
  | ret v => exact q
  | brk => exact q
  | cont => exact q
theorem pss_one (h1 : PS X st t) : PSs X [st] t := by
  intro pins s σ H D I h
  refine wpAny_execs_cons (thn (h1 pins s σ H D I h) fun f s1 q => ?_)
  cases f with
  | next => exact wpAny_execs_nil q
  | ret v => exact q
  | brk => exact q
  | cont => exact q
def tBreak : TS := fun D σ H => D.bk σ H
def tCont : TS := fun D σ H => D.ct σ H
theorem ps_pass : PS X (.Pass pos) tNext := fun _ _ σ H _ I h => wpAny_Pass ⟨σ, H, I, h⟩
theorem ps_break : PS X (.Break pos) tBreak := fun _ _ σ H _ I h => wpAny_Break ⟨σ, H, I, h⟩
theorem ps_continue : PS X (.Continue pos) tCont := fun _ _ σ H _ I h => wpAny_Continue ⟨σ, H, I, h⟩
/-- in a def's body nothing is shown -/
theorem Inv.quiet {pins : List (Addr × Obj)} {σ : St} {H : Hp} {s : Shared} (I : Inv X pins σ H s) : interactive X.env = false := by simp [interactive, I.ok.kind]
/-- a docstring -/
theorem ps_doc {x j pos pos'} : PS X (.Expr (.Constant (.str x) j pos) pos') tNext := fun _ s σ H _ I h => wpAny_Expr (Calls.Constant_str (show SP X _ _ .next { s with toks := s.toks + 1 } from ⟨σ, H, I.tok _, h⟩)) I.quiet
/-- an expression whose value is dropped -/
def tDrop (te : TE) : TS := fun D σ H => te σ H fun _ H1 => D.nx σ H1
theorem ps_expr (he : PE X e te) (hs : swapsWith e none pos.line X.env = pure false := by rfl) : PS X (.Expr e pos) (tDrop te) := by
  intro pins s σ H D I h
  exact wpAny_Expr_any (thn (he pins s σ H _ I h) fun v s1 ⟨x, H1, I1, r1, q1⟩ => ⟨σ, H1, I1, q1⟩) I.quiet hs
def tRet (te : TE) : TS := fun D σ H => te σ H D.rt
theorem ps_ret (he : PE X e te) : PS X (.Return (some e) pos) (tRet te) := by
  intro pins s σ H D I h
  exact wpAny_Return_some (thn (he pins s σ H _ I h) fun v s1 ⟨x, H1, I1, r1, q1⟩ => ⟨x, σ, H1, I1, r1, q1⟩)
def tRetN : TS := fun D _ H => D.rt .non H
theorem ps_retN : PS X (.Return none pos) tRetN := fun _ _ σ H _ I h => wpAny_Return_none ⟨.non, σ, H, I, rfl, h⟩
def tIfS (c : TT) (t u : TS) : TS := fun D σ H => c σ H fun b H1 => if b = true then t D σ H1 else u D σ H1
theorem ps_if {c : Expr} {a b : List Stmt} {tc : TT} (hc : PT X c tc) (ha : PSs X a t) (hb : PSs X b u) : PS X (.If c a b pos) (tIfS tc t u) := by
  intro pins s σ H D I h
  refine wpAny_If (thn (hc pins s σ H _ I h) fun d s1 ⟨H1, I1, q1⟩ => ?_)
  cases d with
  | true => exact ha pins s1 σ H1 D I1 q1
  | false => exact hb pins s1 σ H1 D I1 q1
/-- code that the proof never comes to -/
def tNever : TS := fun _ _ _ => False
theorem ps_never : PS X st tNever := fun _ _ _ _ _ _ h => h.elim
theorem pss_never {sts : List Stmt} : PSs X sts tNever := fun _ _ _ _ _ _ h => h.elim
end

/-! ### targets -/
abbrev TG := V → St → Hp → (St → Hp → Prop) → Prop
abbrev TGs := List V → St → Hp → (St → Hp → Prop) → Prop
def PG (X : Cx) (target : Expr) (t : TG) : Prop :=
  ∀ (pins : List (Addr × Obj)) (s : Shared) (σ : St) (H : Hp) (v : V) (u : Value) (Q : St → Hp → Prop), Inv X pins σ H s → RelV v u → t v σ H Q →
    wpAny (model X.prog X.w) X.A (assign target X.env u) (fun _ s' => ∃ σ' H', Inv X pins σ' H' s' ∧ Q σ' H') X.xe s
/-- several targets, one after another -/
def PGs (X : Cx) (ts : List Expr) (t : TGs) : Prop :=
  ∀ (pins : List (Addr × Obj)) (s : Shared) (σ : St) (H : Hp) (vs : List V) (us : List Value) (Q : St → Hp → Prop), Inv X pins σ H s → Vals vs us → t vs σ H Q →
    wpAny (model X.prog X.w) X.A (assignInOrder ((assignEach ts X.env).map (·.2)) us) (fun _ s' => ∃ σ' H', Inv X pins σ' H' s' ∧ Q σ' H') X.xe s
/-- o[i] = v, by values -/
abbrev TSet := V → V → V → Hp → (Hp → Prop) → Prop
def PSet (X : Cx) (t : TSet) : Prop :=
  ∀ (pins : List (Addr × Obj)) (s : Shared) (σ : St) (H : Hp) (o i v : V) (ov iv u : Value) (Q : Hp → Prop), Inv X pins σ H s → RelV o ov → RelV i iv → RelV v u → t o i v H Q →
    wpAny (model X.prog X.w) X.A (setItem ov iv u) (fun _ s' => ∃ H', Inv X pins σ H' s' ∧ Q H') X.xe s
/-- a op= b, by values -/
abbrev TIp := V → V → Hp → VK → Prop
def PIp (X : Cx) (op : Operator) (t : TIp) : Prop :=
  ∀ (pins : List (Addr × Obj)) (s : Shared) (σ : St) (H : Hp) (x y : V) (v u : Value) (Q : VK), Inv X pins σ H s → RelV x v → RelV y u → t x y H Q →
    wpAny (model X.prog X.w) X.A (inplaceOp op v u) (EP X pins σ Q) X.xe s
section
variable {X : Cx} {pos : Pos}
def gName (i : Nat) : TG := fun v σ H Q => Q (σ.set i (some v)) H
theorem pg_name {i : Nat} {x : Str} (hN : X.N.Nodup) (hi : X.N[i]? = some x) (hx : Loc X.env.scope x) (hf : X.fn x = true ∨ X.env.scope.names.lookup x = some .local := by first | exact .inl rfl | exact .inr rfl | assumption) : PG X (.Name x pos) (gName i) := by
  intro pins s σ H v u Q I r h
  exact wpAny_assign_Name (store_ok I hN hi hx r (fun s' I' => ⟨_, H, I', h⟩) hf)
def gNil : TGs := fun vs σ H Q => vs = [] ∧ Q σ H
def gCons (t : TG) (u : TGs) : TGs := fun vs σ H Q => ∃ v r, vs = v :: r ∧ t v σ H fun σ' H' => u r σ' H' Q
theorem pgs_nil : PGs X [] gNil := by
  intro pins s σ H vs us Q I r h
  obtain ⟨e, h⟩ := h
  subst e
  cases r
  exact assignInOrder_nil ⟨σ, H, I, h⟩
theorem pgs_cons {e : Expr} {es : List Expr} {t : TG} {u : TGs} (h1 : PG X e t) (h2 : PGs X es u)
    (hs : (assignEach (e :: es) X.env).map (·.2) = assign e X.env :: (assignEach es X.env).map (·.2) := by rfl) : PGs X (e :: es) (gCons t u) := by
  intro pins s σ H vs us Q I r h
  obtain ⟨v, vr, e1, h⟩ := h
  subst e1
  cases r with
  | cons r rr =>
    rw [hs]
    refine assignInOrder_cons (thn (h1 pins s σ H _ _ _ I r h) fun _ s1 ⟨σ1, H1, I1, q1⟩ => ?_)
    exact h2 pins s1 σ1 H1 _ _ Q I1 rr q1
/-- (a, b, ..) = a tuple of that length -/
def gTup (K : PySem.W.Frag) (n : Nat) (t : TGs) : TG := fun v σ H Q => ∃ a xs, v = .ref a ∧ SqT K H a xs ∧ xs.length = n ∧ t xs σ H Q
theorem pg_tup {es : List Expr} {k : Nat} {t : TGs} {n : Nat} (hc : X.calm = true) (h : PGs X es t)
    (hn : (assignEach es X.env).length = n := by rfl) (hst : (assignEach es X.env).findIdx? (·.1) = none := by rfl) : PG X (.Tuple es k pos) (gTup X.K n t) := by
  intro pins s σ H v u Q I r hw
  obtain ⟨a, xs, e1, hq, hl, hw⟩ := hw
  subst e1
  cases r
  obtain ⟨its, rv, ht, hz⟩ := I.tuple hq
  refine assign_Tuple_tuple (I.ok.hd hc) ht (by simp [hn, ← hl, rv.length]) hst fun h' hx => ?_
  have I1 : Inv X pins σ H { s with heap := h' } := I.kept (t' := s.toks) fun b o e => hx b o (Nat.ne_of_lt (Heap.lt_size e)) e
  exact h pins _ σ H xs _ Q I1 (by simpa using rv) hw
/-- o[i] = .. -/
def gSub (to ti : TE) (t : TSet) : TG := fun v σ H Q => to σ H fun o H1 => ti σ H1 fun i H2 => t o i v H2 fun H3 => Q σ H3
theorem pg_sub {o i : Expr} {to ti : TE} {t : TSet} (ho : PE X o to) (hi : PE X i ti) (hs : PSet X t)
    (ha : ∀ v, assign (.Subscript o i pos) X.env v = (do
      let ov ← holding [v] (eval o X.env)
      let iv ← holding [v, ov] (eval i X.env)
      standAt pos
      holding [v, ov, iv] (setItem ov iv v)
      release [v, ov, iv] []) := by intro _; rfl) : PG X (.Subscript o i pos) (gSub to ti t) := by
  intro pins s σ H v u Q I r h
  rw [ha]
  refine wpAny_bind (wpAny_holding (thn (ho pins s σ H _ I h) fun ov s1 ⟨x, H1, I1, r1, q1⟩ => ?_))
  refine wpAny_bind (wpAny_holding (thn (hi pins s1 σ H1 _ I1 q1) fun iv s2 ⟨y, H2, I2, r2, q2⟩ => ?_))
  refine wpAny_bind (wpAny_standAt (wpAny_bind (wpAny_holding (thn (hs pins s2 σ H2 x y v ov iv u _ I2 r1 r2 r q2) fun _ s3 ⟨H3, I3, q3⟩ => ?_))))
  exact wpAny_release ⟨σ, H3, I3, q3⟩
/-- target = value -/
def tAsg (te : TE) (g : TG) : TS := fun D σ H => te σ H fun x H1 => g x σ H1 D.nx
theorem ps_asg {tg e : Expr} {te : TE} {g : TG} (he : PE X e te) (hg : PG X tg g) (hs : swapsWithSole [tg] e pos.line X.env = pure false := by rfl) (hw : swappedStores [tg] e X.env = pure none := by rfl)
    (h1 : (assignEach [tg] X.env).map (·.2) = [assign tg X.env] := by rfl) : PS X (.Assign [tg] e pos) (tAsg te g) := by
  intro pins s σ H D I h
  refine wpAny_Assign_stores (thn (he pins s σ H _ I h) fun v s1 ⟨x, H1, I1, r1, q1⟩ => ?_) hs hw
  rw [h1]
  exact thn (hg pins s1 σ H1 x v _ I1 r1 q1) fun _ s2 q => q
/-- name = value -/
theorem ps_set {i : Nat} {x : Str} {e : Expr} {te : TE} {pos' : Pos} (hN : X.N.Nodup) (hi : X.N[i]? = some x) (hx : Loc X.env.scope x) (he : PE X e te) (hs : swapsWith e (some (.Name x pos')) pos.line X.env = pure false := by rfl) (hf : X.fn x = true ∨ X.env.scope.names.lookup x = some .local := by first | exact .inl rfl | exact .inr rfl | assumption) :
    PS X (.Assign [.Name x pos'] e pos) (tAsg te (gName i)) := by
  intro pins s σ H D I h
  refine wpAny_Assign_Name (thn (he pins s σ H _ I h) fun v s1 ⟨y, H1, I1, r1, q1⟩ => ?_) hs
  exact store_ok I1 hN hi hx r1 (fun s2 I2 => ⟨_, H1, I2, q1⟩) hf
/-- a, b = x, y with plain local names: stored from the right; the pair itself is not tracked (the opening rows as in PyProof/Rows/TupAssign.lean:23) -/
def tPar (i j : Nat) (ta : TA) : TS := fun D σ H => ta σ H fun vs H1 => ∃ v w, vs = [v, w] ∧ D.nx ((σ.set i (some v)).set j (some w)) H1
theorem ps_par {i j : Nat} {x y : Str} {a b : Expr} {ta : TA} {px py pt : Pos} {kt k2 pt2} (hc : X.calm = true) (hN : X.N.Nodup) (hi : X.N[i]? = some x) (hj : X.N[j]? = some y) (hij : i ≠ j)
    (hx : X.env.scope.names.lookup x = some .local) (hy : X.env.scope.names.lookup y = some .local) (ha : PA X [a, b] ta)
    (hw : swappedStores [.Tuple [.Name x px, .Name y py] kt pt] (.Tuple [a, b] k2 pt2) X.env = pure (some [x, y]))
    (hs : swapsWithSole [.Tuple [.Name x px, .Name y py] kt pt] (.Tuple [a, b] k2 pt2) pos.line X.env = pure false := by rfl) :
    PS X (.Assign [.Tuple [.Name x px, .Name y py] kt pt] (.Tuple [a, b] k2 pt2) pos) (tPar i j ta) := by
  intro pins s σ H D I h
  rw [exec_Assign_arm]
  refine wpAny_bind (wpAny_standAt ?_)
  rw [hs]
  refine wpAny_bind (wpAny_pure ?_)
  rw [if_neg (by decide)]
  refine wpAny_bind (Tuple_ (thn (ha _ pins s σ H _ I h) fun us s1 ⟨vs, H1, I1, r1, q1⟩ => ?_))
  obtain ⟨v, w, e1, q1⟩ := q1
  subst e1
  obtain ⟨u1, u2, rfl, rv, rw'⟩ : ∃ u1 u2, us = [u1, u2] ∧ RelV v u1 ∧ RelV w u2 := by
    cases r1 with
    | cons p q =>
      cases q with
      | cons p' q' =>
        cases q'
        exact ⟨_, _, rfl, p, p'⟩
  refine wpAny_newObj_type ?_ (by show 2 ≤ sizeLine; decide)
  have I2 : Inv X pins σ H1 { s1 with heap := s1.heap.push { cls := .type "tuple", data := .seq [u1, u2].toArray } } := I1.kept (t' := s1.toks) fun b o e => Heap.get?_push_of_some _ e
  rw [hw]
  refine wpAny_bind (wpAny_pure ?_)
  show wpAny (model X.prog X.w) X.A (do rule "assign.swapped-stores"; let items ← unpackItems (.ref s1.heap.objs.size) 2 none; assignInOrder [fun v => bindName X.env y v, fun v => bindName X.env x v] items.reverse; pure Flow.next) _ _ _
  refine wpAny_bind (wpAny_rule (wpAny_bind (unpackItems_tuple (items := #[u1, u2]) (I.ok.hd hc) (IsTup.new s1.heap _) fun h' hx' => ?_)))
  have I3 := I2.kept (h' := h') (t' := s1.toks) fun b o e => hx' b o (Nat.ne_of_lt (Heap.lt_size e)) e
  show wpAny _ _ (assignInOrder [fun v => bindName X.env y v, fun v => bindName X.env x v] [u2, u1] >>= fun _ => pure Flow.next) _ _ _
  refine wpAny_bind (assignInOrder_cons (wpAny_bindName (store_ok I3 hN hj (.inl hy) rw' (fun s2 I4 => ?_) (.inr hy))))
  refine assignInOrder_cons (wpAny_bindName (store_ok I4 hN hi (.inl hx) rv (fun s3 I5 => assignInOrder_nil (wpAny_pure ?_)) (.inr hx)))
  rw [List.set_comm _ _ (Ne.symm hij)] at I5
  exact ⟨_, H1, I5, q1⟩
/-- name op= e -/
def tAug (i : Nat) (te : TE) (ti : TIp) : TS := fun D σ H => ∃ x, σ[i]? = some (some x) ∧ te σ H fun y H1 => ti x y H1 fun z H2 => D.nx (σ.set i (some z)) H2
theorem ps_aug {i : Nat} {x : Str} {e : Expr} {te : TE} {op : Operator} {ti : TIp} {pos' : Pos} (hN : X.N.Nodup) (hi : X.N[i]? = some x) (hx : Loc X.env.scope x) (he : PE X e te) (ho : PIp X op ti) (hf : X.fn x = true ∨ X.env.scope.names.lookup x = some .local := by first | exact .inl rfl | exact .inr rfl | assumption) :
    PS X (.AugAssign (.Name x pos') op e pos) (tAug i te ti) := by
  intro pins s σ H D I h
  obtain ⟨v, e1, h⟩ := h
  obtain ⟨m, hn, hl⟩ := I.loc
  have vis : Vis X.env.scope x := by rcases hx with k | k; exact .inl k; exact .inr (.inl k)
  obtain ⟨u, r, l⟩ := hl i x v hi e1 vis
  refine wpAny_AugAssign_Name ?_
  have go : wpAny (model X.prog X.w) X.A (eval e X.env) (fun w s₂ => wpAny (model X.prog X.w) X.A (inplaceOp op u w) (fun r s₃ => wpAny (model X.prog X.w) X.A (storeName X.env x r) (fun _ => SP X pins D .next) X.xe s₃) X.xe s₂) X.xe s := by
    refine thn (he pins s σ H _ I h) fun w s1 ⟨y, H1, I1, r1, q1⟩ => ?_
    refine thn (ho pins s1 σ H1 v y u w _ I1 r r1 q1) fun z s2 ⟨zv, H2, I2, r2, q2⟩ => ?_
    exact store_ok I2 hN hi hx r2 (fun s3 I3 => ⟨_, H2, I3, q2⟩) hf
  rcases l with ⟨hk, hm⟩ | ⟨hk, c, hc, hcell⟩
  · exact wpAny_loadName_local I.ok.kind hk hn hm go
  · rcases hk with hk | hk
    · exact wpAny_loadName_cell I.ok.kind hk hc hcell go
    · rcases hx with k | k
      · have : X.env.scope.names.lookup x = some .free := hk
        rw [k] at this; cases this
      · have : X.env.scope.names.lookup x = some .free := hk
        rw [k] at this; cases this
/-- o[i] op= e -/
def tAugS (to ti te : TE) (tget : V → V → Hp → VK → Prop) (tip : TIp) (tset : TSet) : TS := fun D σ H => to σ H fun o H1 => ti σ H1 fun i H2 => tget o i H2 fun x H3 => te σ H3 fun y H4 => tip x y H4 fun z H5 => tset o i z H5 fun H6 => D.nx σ H6
/-- o[i], by values -/
def PGet (X : Cx) (t : V → V → Hp → VK → Prop) : Prop :=
  ∀ (pins : List (Addr × Obj)) (s : Shared) (σ : St) (H : Hp) (o i : V) (ov iv : Value) (Q : VK), Inv X pins σ H s → RelV o ov → RelV i iv → t o i H Q →
    wpAny (model X.prog X.w) X.A (getItem ov iv) (EP X pins σ Q) X.xe s
theorem ps_augS {o i e : Expr} {to ti te : TE} {tget : V → V → Hp → VK → Prop} {tip : TIp} {tset : TSet} {op : Operator} {tpos : Pos} (ho : PE X o to) (hi : PE X i ti) (hg : PGet X tget) (he : PE X e te) (hp : PIp X op tip) (hs : PSet X tset)
    (ha : ∀ ov iv new, augStore i ov iv new = (do holding [new, ov, iv] (setItem ov iv new); release [new, ov, iv] []; pure .next) := by intros; rfl) : PS X (.AugAssign (.Subscript o i tpos) op e pos) (tAugS to ti te tget tip tset) := by
  intro pins s σ H D I h
  refine wpAny_AugAssign_SubscriptAny (thn (ho pins s σ H _ I h) fun ov s1 ⟨x1, H1, I1, r1, q1⟩ => ?_) ha
  refine thn (hi pins s1 σ H1 _ I1 q1) fun iv s2 ⟨x2, H2, I2, r2, q2⟩ => ?_
  refine thn (hg pins s2 σ H2 x1 x2 ov iv _ I2 r1 r2 q2) fun old s3 ⟨x3, H3, I3, r3, q3⟩ => ?_
  refine thn (he pins s3 σ H3 _ I3 q3) fun v s4 ⟨x4, H4, I4, r4, q4⟩ => ?_
  refine thn (hp pins s4 σ H4 x3 x4 old v _ I4 r3 r4 q4) fun new s5 ⟨x5, H5, I5, r5, q5⟩ => ?_
  exact thn (hs pins s5 σ H5 x1 x2 x5 ov iv new _ I5 r1 r2 r5 q5) fun _ s6 ⟨H6, I6, q6⟩ => ⟨σ, H6, I6, q6⟩
/-- ints -/
def ipI (f : Int → Int → Int) : TIp := fun x y H Q => ∃ i j, x = .int i ∧ y = .int j ∧ Q (.int (f i j)) H
theorem ip_add : PIp X .Add (ipI fun i j => i + j) := by
  intro pins s σ H x y v u Q I r1 r2 h
  obtain ⟨i, j, e1, e2, q⟩ := h
  subst e1; subst e2
  obtain ⟨t, rfl⟩ := r1
  obtain ⟨t', rfl⟩ := r2
  exact iadd_int ⟨.int _, H, I.tok _, ⟨_, rfl⟩, q⟩
theorem ip_sub : PIp X .Sub (ipI fun i j => i - j) := by
  intro pins s σ H x y v u Q I r1 r2 h
  obtain ⟨i, j, e1, e2, q⟩ := h
  subst e1; subst e2
  obtain ⟨t, rfl⟩ := r1
  obtain ⟨t', rfl⟩ := r2
  exact isub_int ⟨.int _, H, I.tok _, ⟨_, rfl⟩, q⟩
end

/-! ### while -/
section
variable {X : Cx} {pos : Pos}
/-- the invariant W with its measure -/
def tWhile (c : TT) (tb : TS) : TS := fun D σ H => ∃ W : Nat → St → Hp → Prop, (∃ m, W m σ H) ∧ ∀ m σ H, W m σ H →
  c σ H fun b H1 => if b = true then ∃ N : St → Hp → Prop, (∀ σ' H', N σ' H' → ∃ m', m' < m ∧ W m' σ' H') ∧ tb { D with nx := N, ct := N, bk := D.nx } σ H1 else D.nx σ H1
theorem ps_while {c : Expr} {body : List Stmt} {tc : TT} {tb : TS} (hp : PassesOwn (model X.prog X.w) X.A X.env X.xe) (hc : PT X c tc) (hb : PSs X body tb) : PS X (.While c body [] pos) (tWhile tc tb) := by
  intro pins s σ H D I h
  obtain ⟨W, ⟨m0, w0⟩, turn⟩ := h
  refine wpAny_While (codeAny_whileLoop (fun n s' => ∃ σ' H', Inv X pins σ' H' s' ∧ W n σ' H') ?_ m0 ⟨σ, H, I, w0⟩)
  rintro n s1 ⟨σ1, H1, I1, w1⟩
  refine wpAny_passesOwn hp (thn (hc pins s1 σ1 H1 _ I1 (turn n σ1 H1 w1)) fun b s2 ⟨H2, I2, q2⟩ => ?_)
  cases b with
  | true =>
    obtain ⟨N, hN, q2⟩ := q2
    rw [if_pos rfl]
    refine wpAny_passesOwn hp (thn (hb pins s2 σ1 H2 _ I2 q2) fun f s3 q3 => ?_)
    cases f with
    | next =>
      obtain ⟨σ3, H3, I3, n3⟩ := q3
      obtain ⟨m', hm, w3⟩ := hN σ3 H3 n3
      exact ⟨m', hm, σ3, H3, I3, w3⟩
    | cont =>
      obtain ⟨σ3, H3, I3, n3⟩ := q3
      obtain ⟨m', hm, w3⟩ := hN σ3 H3 n3
      exact ⟨m', hm, σ3, H3, I3, w3⟩
    | brk => exact q3
    | ret v => exact q3
  | false =>
    rw [if_neg Bool.false_ne_true]
    exact wpAny_execs_nil ⟨σ1, H2, I2, q2⟩
end

/-! ### what a loop or a comprehension walks -/
/-- at turn i: it yields x (the heap may grow), or it stops -/
structure It where
  go : Nat → Hp → Prop
  yld : Nat → Hp → V → Hp → Prop
  stop : Nat → Hp → Prop
/-- the iterator's own objects may turn: they are not the frame's, not pinned, younger than the entry (or a comprehension's own) -/
def FpOk (X : Cx) (pins : List (Addr × Obj)) (H : Hp) (b : Addr) : Prop :=
  H b = none ∧ b ≠ X.env.locals ∧ b ∉ X.fs ∧ (b ∈ X.ex ∨ X.s₀.heap.objs.size ≤ b) ∧ (∀ x c, X.env.cells.lookup x = some c → c ≠ b) ∧ ∀ p ∈ X.pn ++ pins, p.1 ≠ b
theorem Inv.fpOk {X : Cx} {pins : List (Addr × Obj)} {σ : St} {H H' : Hp} {s : Shared} {b : Addr} (I : Inv X pins σ H s) (hb : s.heap.objs.size ≤ b) (hn : H' b = none) : FpOk X pins H' b := by
  refine ⟨hn, Nat.ne_of_gt (Nat.lt_of_lt_of_le I.lt hb), I.nofs hb, .inr (Nat.le_trans I.sz hb), fun x c e z => ?_, fun p hp z => ?_⟩
  · obtain ⟨v, q⟩ := I.cell x c e
    exact absurd (Nat.lt_of_lt_of_le q.lt (by rw [z]; exact hb)) (Nat.lt_irrefl _)
  · exact absurd (Nat.lt_of_lt_of_le (Heap.lt_size (I.pin p hp).1) (by rw [z]; exact hb)) (Nat.lt_irrefl _)
structure Turn (P : Program) (w : World) (K : PySem.W.Frag) (tg : Expr) (J : It) (fp : List Addr) (it : Addr) (tn : Nat → Heap → Prop) : Prop where
  mem : it ∈ fp
  obj : ∀ i h, tn i h → ∀ b ∈ fp, ∃ o, h.get? b = some o ∧ ∀ v, o.data ≠ .cell v
  keep : ∀ i h h', tn i h → (∀ b ∈ fp, ∀ o, h.get? b = some o → h'.get? b = some o) → tn i h'
  item : ∀ (X : Cx), X.prog = P → X.w = w → X.K = K → X.calm = true → ∀ (i : Nat) (pins : List (Addr × Obj)) (s : Shared) (σ : St) (H : Hp) (E : Value → Shared → Prop), Inv X pins σ H s → (∀ b ∈ fp, FpOk X pins H b) → tn i s.heap → J.go i H →
    wpAny (model P w) X.A (pyNext (.ref it)) (fun r s1 => ∃ u, r = some u ∧
      wpAny (model P w) X.A (letOwnedTupleGo tg (.ref it) u) (fun _ s2 => ∃ x H', Inv X pins σ H' s2 ∧ RelV x u ∧ J.yld i H x H' ∧ tn (i + 1) s2.heap ∧ ∀ b ∈ fp, H' b = none) E s1) E s
  done : ∀ (X : Cx), X.prog = P → X.w = w → X.K = K → X.calm = true → ∀ (i : Nat) (pins : List (Addr × Obj)) (s : Shared) (σ : St) (H : Hp) (E : Value → Shared → Prop), Inv X pins σ H s → (∀ b ∈ fp, FpOk X pins H b) → tn i s.heap → J.stop i H →
    wpAny (model P w) X.A (pyNext (.ref it)) (fun r s1 => r = none ∧ Inv X pins σ H s1) E s
  self : ∀ (A : Around) (i : Nat) (s : Shared) (Q : Value → Shared → Prop) (E : Value → Shared → Prop), tn i s.heap → Q (.ref it) s → wpAny (model P w) A (pyIter (.ref it)) Q E s
abbrev TI := St → Hp → (It → Hp → Prop) → Prop
/-- an iterator has come -/
def PIE (X : Cx) (pins : List (Addr × Obj)) (σ : St) (tg : Expr) (R : It → Hp → Prop) (itv : Value) (s2 : Shared) : Prop :=
  ∃ (it : Addr) (fp : List Addr) (tn : Nat → Heap → Prop) (J : It) (H' : Hp), itv = .ref it ∧ Inv X pins σ H' s2 ∧ Turn X.prog X.w X.K tg J fp it tn ∧ tn 0 s2.heap ∧ (∀ b ∈ fp, FpOk X pins H' b) ∧ R J H'
def PI (X : Cx) (tg iter : Expr) (wi : TI) : Prop :=
  ∀ (pins : List (Addr × Obj)) (s : Shared) (σ : St) (H : Hp) (R : It → Hp → Prop), Inv X pins σ H s → wi σ H R →
    wpAny (model X.prog X.w) X.A (eval iter X.env) (fun v s1 => wpAny (model X.prog X.w) X.A (pyIter v) (PIE X pins σ tg R) X.xe s1) X.xe s

/-- the step ahead of the store is nothing for an iterator that keeps no tuple -/
theorem go_of {M : Model} {A : Around} {E : Value → Shared → Prop} {s : Shared} {tg : Expr} {it : Addr} {u : Value} {o : Obj} {n : String} {vs : Array Value} {Q : Unit → Shared → Prop} (ho : s.heap.get? it = some o) (hc : o.cls = .type n) (hd : o.data = .fields vs)
    (hn : ["enumerate", "zip", "dict_itemiterator", "dict_reverseitemiterator", "odict_iterator", "itertools.zip_longest", "itertools.pairwise"].contains n = false) (hQ : Q () s) : wpAny M A (letOwnedTupleGo tg (.ref it) u) Q E s := by
  unfold letOwnedTupleGo
  cases tg <;> first
    | exact wpAny_pure hQ
    | (cases u <;> first
        | exact wpAny_pure hQ
        | (refine wpAny_bind (wpAny_load ho ?_)
           rw [hc, hd]
           show wpAny M A (if (["enumerate", "zip", "dict_itemiterator", "dict_reverseitemiterator", "odict_iterator", "itertools.zip_longest", "itertools.pairwise"].contains n && vs[0]? == some (rawInt _)) = true then _ else _) Q E s
           rw [if_neg (by intro h; rw [hn, Bool.false_and] at h; cases h)]
           exact wpAny_pure hQ))

/-- the list at a, as it stands at each turn (a loop may append to it) -/
def Itl (K : PySem.W.Frag) (a : Addr) : It :=
  ⟨fun i H => ∃ xs x, SqL K H a xs ∧ xs[i]? = some x, fun i H x H' => H' = H ∧ ∀ xs, SqL K H a xs → xs[i]? = some x, fun i H => ∃ xs, SqL K H a xs ∧ xs.length ≤ i⟩
def Itt (K : PySem.W.Frag) (a : Addr) : It :=
  ⟨fun i H => ∃ xs x, SqT K H a xs ∧ xs[i]? = some x, fun i H x H' => H' = H ∧ ∀ xs, SqT K H a xs → xs[i]? = some x, fun i H => ∃ xs, SqT K H a xs ∧ xs.length ≤ i⟩
/-- lo, lo + 1, .. (n of them) -/
def Itr (lo : Int) (n : Nat) : It := ⟨fun i _ => i < n, fun i H x H' => H' = H ∧ x = .int (lo + i), fun i _ => n ≤ i⟩
theorem turn_list {P : Program} {w : World} {K : PySem.W.Frag} {tg : Expr} (a it : Addr) : Turn P w K tg (Itl K a) [it] it (fun i h => h.IsListIter it a i) where
  mem := by simp
  obj := fun i h st b hb => by
    have e : b = it := by simpa using hb
    subst e
    obtain ⟨o, e, c, d⟩ := st
    exact ⟨o, e, fun v z => by rw [d] at z; cases z⟩
  keep := fun i h h' st k => st.at fun o e => k it (by simp) o e
  item := by
    intro X hP hw hK hc i pins s σ H E I hf st hg
    subst hP hw hK
    obtain ⟨xs, x, hq, hx⟩ := hg
    obtain ⟨its, rv, p, hz⟩ := I.list hq
    obtain ⟨u, hu, ru⟩ := rv.get hx
    obtain ⟨f0, f1, f2, f3, f4, f5⟩ := hf it (by simp)
    refine wpAny_pyNext_list_item st p.isList (x := u) (by simpa using hu) fun h' st' sb => ?_
    have I1 : Inv X pins σ H { s with heap := h' } := I.turned (t' := s.toks) (fun b o hb e => (sb.2 b hb).trans e) f0 f1 f3 f4 f5
    obtain ⟨o, e, c, d⟩ := id st'
    exact ⟨u, rfl, go_of (s := { s with heap := h' }) e c d (by decide) ⟨x, H, I1, ru, ⟨rfl, fun ys hy => by rw [I.list_inj hy hq]; exact hx⟩, st', fun b hb => (hf b hb).1⟩⟩
  done := by
    intro X hP hw hK hc i pins s σ H E I hf st hg
    subst hP hw hK
    obtain ⟨xs, hq, hx⟩ := hg
    obtain ⟨its, rv, p, hz⟩ := I.list hq
    obtain ⟨f0, f1, f2, f3, f4, f5⟩ := hf it (by simp)
    have hl := rv.length
    exact wpAny_pyNext_list_end (I.ok.hd hc) st p.isList (by simp; omega) fun h' eb => ⟨rfl, I.turned (t' := s.toks) (fun b o hb e => eb b o hb e) f0 f1 f3 f4 f5⟩
  self := fun _ _ _ _ _ st h => wpAny_pyIter_listiter st h
theorem turn_tuple {P : Program} {w : World} {K : PySem.W.Frag} {tg : Expr} (a it : Addr) : Turn P w K tg (Itt K a) [it] it (fun i h => h.IsTupleIter it a i) where
  mem := by simp
  obj := fun i h st b hb => by
    have e : b = it := by simpa using hb
    subst e
    obtain ⟨o, e, c, d⟩ := st
    exact ⟨o, e, fun v z => by rw [d] at z; cases z⟩
  keep := fun i h h' st k => st.at fun o e => k it (by simp) o e
  item := by
    intro X hP hw hK hc i pins s σ H E I hf st hg
    subst hP hw hK
    obtain ⟨xs, x, hq, hx⟩ := hg
    obtain ⟨its, rv, p, hz⟩ := I.tuple hq
    obtain ⟨u, hu, ru⟩ := rv.get hx
    obtain ⟨f0, f1, f2, f3, f4, f5⟩ := hf it (by simp)
    refine wpAny_pyNext_tuple_item st (show s.heap.IsTuple a its.toArray from p) (x := u) (by simpa using hu) fun h' st' sb => ?_
    have I1 : Inv X pins σ H { s with heap := h' } := I.turned (t' := s.toks) (fun b o hb e => (sb.2 b hb).trans e) f0 f1 f3 f4 f5
    obtain ⟨o, e, c, d⟩ := id st'
    exact ⟨u, rfl, go_of (s := { s with heap := h' }) e c d (by decide) ⟨x, H, I1, ru, ⟨rfl, fun ys hy => by rw [I.tuple_inj hy hq]; exact hx⟩, st', fun b hb => (hf b hb).1⟩⟩
  done := by
    intro X hP hw hK hc i pins s σ H E I hf st hg
    subst hP hw hK
    obtain ⟨xs, hq, hx⟩ := hg
    obtain ⟨its, rv, p, hz⟩ := I.tuple hq
    obtain ⟨f0, f1, f2, f3, f4, f5⟩ := hf it (by simp)
    have hl := rv.length
    exact wpAny_pyNext_tuple_end (I.ok.hd hc) st (show s.heap.IsTuple a its.toArray from p) (by simp; omega) fun h' eb => ⟨rfl, I.turned (t' := s.toks) (fun b o hb e => eb b o hb e) f0 f1 f3 f4 f5⟩
  self := fun _ _ _ _ _ st h => wpAny_pyIter_tupleiter st h
theorem turn_range {P : Program} {w : World} {K : PySem.W.Frag} {tg : Expr} (it : Addr) (lo : Int) (n : Nat) : Turn P w K tg (Itr lo n) [it] it (fun i h => IsRangeIter h it (lo + (i : Nat) * 1) ((n : Int) - (i : Nat)) 1) where
  mem := by simp
  obj := fun i h st b hb => by
    have e : b = it := by simpa using hb
    subst e
    exact ⟨_, st, fun v z => by
      have z' : Data.fields _ = Data.cell v := z
      cases z'⟩
  keep := fun i h h' st k => k it (by simp) _ st
  item := by
    intro X hP hw hK hc i pins s σ H E I hf st hg
    subst hP hw hK
    obtain ⟨f0, f1, f2, f3, f4, f5⟩ := hf it (by simp)
    have W := Walks.range (prog := X.prog) (w := X.w) (I.ok.hd hc) it lo 1 n
    refine W.item i s _ _ hg st fun v h' tk hv st' kk => ?_
    obtain ⟨t, rfl⟩ := hv
    have I1 : Inv X pins σ H { s with heap := h', toks := tk } := I.turned (fun b o hb e => kk b o (by simpa using hb) e) f0 f1 f3 f4 f5
    refine ⟨_, rfl, go_of (s := { s with heap := h', toks := tk }) (n := "range_iterator") st' rfl rfl (by decide) ⟨.int (lo + i), H, I1, ⟨t, ?_⟩, ⟨rfl, rfl⟩, st', fun b hb => (hf b hb).1⟩⟩
    rw [Int.mul_one]
  done := by
    intro X hP hw hK hc i pins s σ H E I hf st hg
    subst hP hw hK
    obtain ⟨f0, f1, f2, f3, f4, f5⟩ := hf it (by simp)
    exact wpAny_pyNext_range_end (I.ok.hd hc) st (by have : n ≤ i := hg; omega) fun h' eb => ⟨rfl, I.turned (t' := s.toks) (fun b o hb e => eb b o hb e) f0 f1 f3 f4 f5⟩
  self := fun _ _ _ _ _ st h => wpAny_pyIter_rangeiter st h
end L2

namespace L2
open PySem PySem.Spec PyProof.Rows
section
variable {X : Cx} {tg : Expr}
def iList (K : PySem.W.Frag) (tl : TE) : TI := fun σ H R => tl σ H fun x H1 => ∃ a, x = .ref a ∧ (∃ xs, SqL K H1 a xs) ∧ R (Itl K a) H1
def iTup (K : PySem.W.Frag) (tl : TE) : TI := fun σ H R => tl σ H fun x H1 => ∃ a, x = .ref a ∧ (∃ xs, SqT K H1 a xs) ∧ R (Itt K a) H1
theorem pi_list {l : Expr} {tl : TE} (hl : PE X l tl) : PI X tg l (iList X.K tl) := by
  intro pins s σ H R I h
  refine thn (hl pins s σ H _ I h) fun v s1 ⟨x, H1, I1, r1, q1⟩ => ?_
  obtain ⟨a, e, ⟨xs, hq⟩, q⟩ := q1
  subst e
  cases r1
  obtain ⟨its, rv, p, hz⟩ := I1.list hq
  refine wpAny_pyIter_list p.isList ?_
  refine ⟨s1.heap.objs.size, [s1.heap.objs.size], _, _, H1, rfl, I1.kept (t' := s1.toks) fun b o e => Heap.get?_push_of_some _ e, turn_list a _, ⟨_, Heap.get?_push_size _ rfl, rfl, rfl⟩, fun b hb => ?_, q⟩
  have e : b = s1.heap.objs.size := by simpa using hb
  subst e
  exact I1.fpOk (Nat.le_refl _) (I1.hok.fresh (Nat.le_refl _))
theorem pi_tup {l : Expr} {tl : TE} (hl : PE X l tl) : PI X tg l (iTup X.K tl) := by
  intro pins s σ H R I h
  refine thn (hl pins s σ H _ I h) fun v s1 ⟨x, H1, I1, r1, q1⟩ => ?_
  obtain ⟨a, e, ⟨xs, hq⟩, q⟩ := q1
  subst e
  cases r1
  obtain ⟨its, rv, p, hz⟩ := I1.tuple hq
  refine wpAny_pyIter_tuple (show s1.heap.IsTuple a its.toArray from p) ?_
  refine ⟨s1.heap.objs.size, [s1.heap.objs.size], _, _, H1, rfl, I1.kept (t' := s1.toks) fun b o e => Heap.get?_push_of_some _ e, turn_tuple a _, ⟨_, Heap.get?_push_size _ rfl, rfl, rfl⟩, fun b hb => ?_, q⟩
  have e : b = s1.heap.objs.size := by simpa using hb
  subst e
  exact I1.fpOk (Nat.le_refl _) (I1.hok.fresh (Nat.le_refl _))
/-- a range object just made, walked -/
theorem range_it {pins : List (Addr × Obj)} {σ : St} {H : Hp} {s : Shared} {R : It → Hp → Prop} {E : Value → Shared → Prop} {lo hi : Int} {t u v : Tok} {tk : Nat} (I : Inv X pins σ H s) (h1 : -(2 ^ 62) ≤ lo) (h2 : lo < 2 ^ 62) (h3 : -(2 ^ 62) ≤ hi) (h4 : hi < 2 ^ 62)
    (q : R (Itr lo (hi - lo).toNat) H) : wpAny (model X.prog X.w) X.A (pyIter (.ref s.heap.objs.size)) (PIE X pins σ tg R) E { s with heap := s.heap.push { cls := .type "range", data := .fields #[.int lo t, .int hi u, .int 1 v] }, toks := tk } := by
  refine wpAny_pyIter_range (IsRange.new ..) (small_one h1 h2 h3 h4) ?_
  have I1 : Inv X pins σ H { s with heap := s.heap.push { cls := .type "range", data := .fields #[.int lo t, .int hi u, .int 1 v] }, toks := tk } := I.kept fun b o e => Heap.get?_push_of_some _ e
  refine ⟨(s.heap.push { cls := .type "range", data := .fields #[.int lo t, .int hi u, .int 1 v] }).objs.size, [(s.heap.push { cls := .type "range", data := .fields #[.int lo t, .int hi u, .int 1 v] }).objs.size], _, _, H, rfl,
    I1.kept (t' := tk) fun b o e => Heap.get?_push_of_some _ e, turn_range _ lo (hi - lo).toNat, ?_, fun b hb => ?_, q⟩
  · have e1 : lo + ((0 : Nat) : Int) * 1 = lo := by simp
    have e2 : (((hi - lo).toNat : Nat) : Int) - ((0 : Nat) : Int) = Builtin.Range.rangeSize lo hi 1 := by rw [rangeSize_one]; split <;> omega
    show IsRangeIter _ _ (lo + ((0 : Nat) : Int) * 1) ((((hi - lo).toNat : Nat) : Int) - ((0 : Nat) : Int)) 1
    rw [e1, e2]
    exact Heap.get?_push_size _ rfl
  · have e : b = (s.heap.push { cls := .type "range", data := .fields #[.int lo t, .int hi u, .int 1 v] }).objs.size := by simpa using hb
    subst e
    exact I1.fpOk (Nat.le_refl _) (I1.hok.fresh (Nat.le_refl _))
def iRng1 (ta : TA) : TI := fun σ H R => ta σ H fun vs H1 => ∃ j : Int, vs = [.int j] ∧ -(2 ^ 62) ≤ j ∧ j < 2 ^ 62 ∧ R (Itr 0 j.toNat) H1
def iRng2 (ta : TA) : TI := fun σ H R => ta σ H fun vs H1 => ∃ i j : Int, vs = [.int i, .int j] ∧ (-(2 ^ 62) ≤ i ∧ i < 2 ^ 62 ∧ -(2 ^ 62) ≤ j ∧ j < 2 ^ 62) ∧ R (Itr i (j - i).toNat) H1
theorem pi_range1 {a : Expr} {ta : TA} {p pos : Pos} (hg : Gl X "range") (hm : X.mg "range" = none) (ha : PA X [a] ta) (hs : starEach [a] X.env = [(false, eval a X.env)] := by rfl) : PI X tg (.Call (.Name "range" p) [a] [] pos) (iRng1 ta) := by
  intro pins s σ H R I h
  refine Call_ (ld_blt I hg hm boot_range (PyProof.Rows.callWith_type1 (thn (ha pos pins s σ H _ I h) fun us s1 ⟨vs, H1, I1, r1, q1⟩ => ?_) hs rfl))
  obtain ⟨j, e, q1, q2, q⟩ := q1
  subst e
  cases r1 with
  | cons r rr =>
    cases rr
    obtain ⟨t, rfl⟩ := r
    exact call_range_1 (range_it I1 (by omega) (by omega) q1 q2 (by simpa using q))
theorem pi_range2 {a b : Expr} {ta : TA} {p pos : Pos} (hg : Gl X "range") (hm : X.mg "range" = none) (ha : PA X [a, b] ta) (hs : starEach [a, b] X.env = [(false, eval a X.env), (false, eval b X.env)] := by rfl) (hs2 : starEach [b] X.env = [(false, eval b X.env)] := by rfl) :
    PI X tg (.Call (.Name "range" p) [a, b] [] pos) (iRng2 ta) := by
  intro pins s σ H R I h
  refine Call_ (ld_blt I hg hm boot_range (PyProof.Rows.callWith_type1 (thn (ha pos pins s σ H _ I h) fun us s1 ⟨vs, H1, I1, r1, q1⟩ => ?_) (by rw [hs, hs2]) (by rw [hs2]; rfl)))
  obtain ⟨i, j, e, ⟨q1, q2, q3, q4⟩, q⟩ := q1
  subst e
  cases r1 with
  | cons r rr =>
    cases rr with
    | cons r' rr =>
      cases rr
      obtain ⟨t, rfl⟩ := r
      obtain ⟨t', rfl⟩ := r'
      exact call_range_2 (range_it I1 q1 q2 q3 q4 q)

/-! ### for -/
/-- W: the invariant by the turn and a measure; N: what the body is to reach -/
def tFor (wi : TI) (g : TG) (tb : TS) : TS := fun D σ H => wi σ H fun J H1 => ∃ W : Nat → Nat → St → Hp → Prop, (∃ m, W 0 m σ H1) ∧ ∀ i m σ H, W i m σ H →
  (J.stop i H ∧ D.nx σ H) ∨ (J.go i H ∧ ∃ N : St → Hp → Prop, (∀ σ' H', N σ' H' → ∃ m', m' < m ∧ W (i + 1) m' σ' H') ∧ ∀ x H', J.yld i H x H' → g x σ H' fun σ2 H2 => tb { D with nx := N, ct := N, bk := D.nx } σ2 H2)
/-- the records at fp as they stand -/
def pinsAt (fp : List Addr) (h : Heap) : List (Addr × Obj) := fp.filterMap fun b => (h.get? b).map fun o => (b, o)
theorem mem_pinsAt {fp : List Addr} {h : Heap} {b : Addr} {o : Obj} (hb : b ∈ fp) (e : h.get? b = some o) : (b, o) ∈ pinsAt fp h := List.mem_filterMap.mpr ⟨b, hb, by rw [e]; rfl⟩
theorem of_pinsAt {fp : List Addr} {h : Heap} {p : Addr × Obj} (hp : p ∈ pinsAt fp h) : p.1 ∈ fp ∧ h.get? p.1 = some p.2 := by
  obtain ⟨b, hb, e⟩ := List.mem_filterMap.mp hp
  cases q : h.get? b with
  | none => rw [q] at e; cases e
  | some o =>
    rw [q] at e
    have e' : (b, o) = p := Option.some.inj e
    subst e'
    exact ⟨hb, q⟩
theorem Inv.pinned {pins : List (Addr × Obj)} {σ : St} {H : Hp} {s : Shared} {fp : List Addr} (I : Inv X pins σ H s) (hf : ∀ b ∈ fp, FpOk X pins H b) (ho : ∀ b ∈ fp, ∃ o, s.heap.get? b = some o ∧ ∀ v, o.data ≠ .cell v) : Inv X (pins ++ pinsAt fp s.heap) σ H s :=
  I.pins_of fun p hp => (List.mem_append.mp hp).elim (fun z => I.pin p (List.mem_append_right _ z)) fun z => by
    obtain ⟨hb, e⟩ := of_pinsAt z
    obtain ⟨f0, f1, f2, _⟩ := hf p.1 hb
    obtain ⟨o, e', d⟩ := ho p.1 hb
    rw [e] at e'; cases e'
    exact ⟨e, f0, f1, f2, d⟩
theorem Inv.unpinned {pins pl : List (Addr × Obj)} {σ : St} {H : Hp} {s : Shared} (I : Inv X (pins ++ pl) σ H s) : Inv X pins σ H s := I.pins_of fun p hp => I.pin p (List.mem_append_right _ (List.mem_append_left _ hp))
theorem ps_for {iter : Expr} {body : List Stmt} {wi : TI} {g : TG} {tb : TS} {pos : Pos} (hp : PassesOwn (model X.prog X.w) X.A X.env X.xe) (hc : X.calm = true) (hi : PI X tg iter wi) (hg : PG X tg g) (hb : PSs X body tb)
    (hs : ∀ x, foldedSetIterable iter X.env x = pure x := by intro _; rfl) : PS X (.For tg iter body [] pos) (tFor wi g tb) := by
  intro pins s σ H D I h
  refine wpAny_For (thn (hi pins s σ H _ I h) fun v s1 h1 => thn h1 fun itv s2 h2 => ?_) hs
  obtain ⟨it, fp, tn, J, H2, e, I2, T, st2, f2, W, ⟨m0, w0⟩, turn⟩ := h2
  subst e
  -- what stays true of the iterator's objects through the loop
  have stat : ∀ {H' : Hp}, (∀ b ∈ fp, H' b = none) → ∀ b ∈ fp, FpOk X pins H' b := fun hn b hb => ⟨hn b hb, (f2 b hb).2⟩
  refine codeAny_forLoop_any (fun n s' => ∃ i σ' H', Inv X pins σ' H' s' ∧ tn i s'.heap ∧ (∀ b ∈ fp, H' b = none) ∧ W i n σ' H') ?_ m0 ⟨0, σ, H2, I2, st2, fun b hb => (f2 b hb).1, w0⟩
  rintro n s3 ⟨i, σ3, H3, I3, st3, fr3, w3⟩
  rcases turn i n σ3 H3 w3 with ⟨stop, qn⟩ | ⟨go, N, hN, step⟩
  · refine wpAny_passesOwn hp (thn (T.done X rfl rfl rfl hc i pins s3 σ3 H3 X.xe I3 (stat fr3) st3 stop) fun r s4 ⟨hr, I4⟩ => ?_)
    subst hr
    exact wpAny_execs_nil ⟨σ3, H3, I4, qn⟩
  · refine wpAny_passesOwn hp (thn (T.item X rfl rfl rfl hc i pins s3 σ3 H3 X.xe I3 (stat fr3) st3 go) fun r s4 ⟨u, hr, h4⟩ => ?_)
    subst hr
    refine wpAny_passesOwn hp (thn h4 fun _ s5 ⟨x, H5, I5, r5, y5, st5, fr5⟩ => ?_)
    have I5' := I5.pinned (stat fr5) (T.obj _ _ st5)
    refine wpAny_passesOwn hp (thn (hg _ s5 σ3 H5 x u _ I5' r5 (step x H5 y5)) fun _ s6 ⟨σ6, H6, I6, q6⟩ => ?_)
    refine wpAny_passesOwn hp (thn (hb _ s6 σ6 H6 _ I6 q6) fun f s7 q7 => ?_)
    have again : ∀ {σ7 : St} {H7 : Hp}, Inv X (pins ++ pinsAt fp s5.heap) σ7 H7 s7 → N σ7 H7 → ∃ m, m < n ∧ ∃ i σ' H', Inv X pins σ' H' s7 ∧ tn i s7.heap ∧ (∀ b ∈ fp, H' b = none) ∧ W i m σ' H' := fun {σ7 H7} I7 n7 => by
      obtain ⟨m', hm, w7⟩ := hN σ7 H7 n7
      refine ⟨m', hm, i + 1, σ7, H7, I7.unpinned, T.keep _ _ _ st5 fun b hb o e => (I7.pin (b, o) (List.mem_append_right _ (List.mem_append_right _ (mem_pinsAt hb e)))).1, fun b hb => ?_, w7⟩
      obtain ⟨o, e, d⟩ := T.obj _ _ st5 b hb
      exact (I7.pin (b, o) (List.mem_append_right _ (List.mem_append_right _ (mem_pinsAt hb e)))).2.1
    cases f with
    | next => obtain ⟨σ7, H7, I7, n7⟩ := q7; exact again I7 n7
    | cont => obtain ⟨σ7, H7, I7, n7⟩ := q7; exact again I7 n7
    | brk => obtain ⟨σ7, H7, I7, q7⟩ := q7; exact ⟨σ7, H7, I7.unpinned, q7⟩
    | ret v => obtain ⟨x7, σ7, H7, I7, r7, q7⟩ := q7; exact ⟨x7, σ7, H7, I7.unpinned, r7, q7⟩
end

/-! ### the forms one uses -/
/-- over a list that the body leaves as it is -/
theorem for_list {K : PySem.W.Frag} {a : Addr} {xs : List V} {g : TG} {tb : TS} {D : Ends} {σ : St} {H : Hp} (Pv : Nat → St → Hp → Prop) (h0 : Pv 0 σ H) (hl : ∀ i σ H, i ≤ xs.length → Pv i σ H → SqL K H a xs)
    (hs : ∀ i x σ H, xs[i]? = some x → Pv i σ H → g x σ H fun σ2 H2 => tb { D with nx := Pv (i + 1), ct := Pv (i + 1), bk := D.nx } σ2 H2) (hd : ∀ σ H, Pv xs.length σ H → D.nx σ H) :
    ∃ W : Nat → Nat → St → Hp → Prop, (∃ m, W 0 m σ H) ∧ ∀ i m σ H, W i m σ H →
      ((Itl K a).stop i H ∧ D.nx σ H) ∨ ((Itl K a).go i H ∧ ∃ N : St → Hp → Prop, (∀ σ' H', N σ' H' → ∃ m', m' < m ∧ W (i + 1) m' σ' H') ∧ ∀ x H', (Itl K a).yld i H x H' → g x σ H' fun σ2 H2 => tb { D with nx := N, ct := N, bk := D.nx } σ2 H2) := by
  refine ⟨fun i m σ H => m = xs.length - i ∧ i ≤ xs.length ∧ Pv i σ H, ⟨xs.length, by simp, Nat.zero_le _, h0⟩, ?_⟩
  rintro i m σ H ⟨rfl, hi, p⟩
  have q := hl i σ H hi p
  by_cases hlt : i < xs.length
  · refine .inr ⟨⟨xs, xs[i], q, by simp [hlt]⟩, Pv (i + 1), fun σ' H' p' => ⟨xs.length - (i + 1), by omega, rfl, hlt, p'⟩, fun x H' y => ?_⟩
    obtain ⟨e, y⟩ := y
    subst e
    exact hs i x σ _ (y xs q) p
  · have e : i = xs.length := by omega
    subst e
    exact .inl ⟨⟨xs, q, Nat.le_refl _⟩, hd σ H p⟩
theorem for_tup {K : PySem.W.Frag} {a : Addr} {xs : List V} {g : TG} {tb : TS} {D : Ends} {σ : St} {H : Hp} (Pv : Nat → St → Hp → Prop) (h0 : Pv 0 σ H) (hl : ∀ i σ H, i ≤ xs.length → Pv i σ H → SqT K H a xs)
    (hs : ∀ i x σ H, xs[i]? = some x → Pv i σ H → g x σ H fun σ2 H2 => tb { D with nx := Pv (i + 1), ct := Pv (i + 1), bk := D.nx } σ2 H2) (hd : ∀ σ H, Pv xs.length σ H → D.nx σ H) :
    ∃ W : Nat → Nat → St → Hp → Prop, (∃ m, W 0 m σ H) ∧ ∀ i m σ H, W i m σ H →
      ((Itt K a).stop i H ∧ D.nx σ H) ∨ ((Itt K a).go i H ∧ ∃ N : St → Hp → Prop, (∀ σ' H', N σ' H' → ∃ m', m' < m ∧ W (i + 1) m' σ' H') ∧ ∀ x H', (Itt K a).yld i H x H' → g x σ H' fun σ2 H2 => tb { D with nx := N, ct := N, bk := D.nx } σ2 H2) := by
  refine ⟨fun i m σ H => m = xs.length - i ∧ i ≤ xs.length ∧ Pv i σ H, ⟨xs.length, by simp, Nat.zero_le _, h0⟩, ?_⟩
  rintro i m σ H ⟨rfl, hi, p⟩
  have q := hl i σ H hi p
  by_cases hlt : i < xs.length
  · refine .inr ⟨⟨xs, xs[i], q, by simp [hlt]⟩, Pv (i + 1), fun σ' H' p' => ⟨xs.length - (i + 1), by omega, rfl, hlt, p'⟩, fun x H' y => ?_⟩
    obtain ⟨e, y⟩ := y
    subst e
    exact hs i x σ _ (y xs q) p
  · have e : i = xs.length := by omega
    subst e
    exact .inl ⟨⟨xs, q, Nat.le_refl _⟩, hd σ H p⟩
theorem for_range {lo : Int} {n : Nat} {g : TG} {tb : TS} {D : Ends} {σ : St} {H : Hp} (Pv : Nat → St → Hp → Prop) (h0 : Pv 0 σ H)
    (hs : ∀ i σ H, i < n → Pv i σ H → g (.int (lo + i)) σ H fun σ2 H2 => tb { D with nx := Pv (i + 1), ct := Pv (i + 1), bk := D.nx } σ2 H2) (hd : ∀ σ H, Pv n σ H → D.nx σ H) :
    ∃ W : Nat → Nat → St → Hp → Prop, (∃ m, W 0 m σ H) ∧ ∀ i m σ H, W i m σ H →
      ((Itr lo n).stop i H ∧ D.nx σ H) ∨ ((Itr lo n).go i H ∧ ∃ N : St → Hp → Prop, (∀ σ' H', N σ' H' → ∃ m', m' < m ∧ W (i + 1) m' σ' H') ∧ ∀ x H', (Itr lo n).yld i H x H' → g x σ H' fun σ2 H2 => tb { D with nx := N, ct := N, bk := D.nx } σ2 H2) := by
  refine ⟨fun i m σ H => m = n - i ∧ i ≤ n ∧ Pv i σ H, ⟨n, by simp, Nat.zero_le _, h0⟩, ?_⟩
  rintro i m σ H ⟨rfl, hi, p⟩
  by_cases hlt : i < n
  · refine .inr ⟨hlt, Pv (i + 1), fun σ' H' p' => ⟨n - (i + 1), by omega, rfl, hlt, p'⟩, fun x H' y => ?_⟩
    obtain ⟨e, y⟩ := y
    subst e y
    exact hs i σ _ hlt p
  · have e : i = n := by omega
    subst e
    exact .inl ⟨Nat.le_refl _, hd σ H p⟩
/-- while, by a word and a measure of the state -/
theorem while_by {c : TT} {tb : TS} {D : Ends} {σ : St} {H : Hp} (Pv : St → Hp → Prop) (μ : St → Hp → Nat) (h0 : Pv σ H)
    (hs : ∀ σ H, Pv σ H → c σ H fun b H1 => if b = true then tb { D with nx := fun σ' H' => Pv σ' H' ∧ μ σ' H' < μ σ H, ct := fun σ' H' => Pv σ' H' ∧ μ σ' H' < μ σ H, bk := D.nx } σ H1 else D.nx σ H1)
    (mono : ∀ σ H Q Q', (∀ b H1, Q b H1 → Q' b H1) → c σ H Q → c σ H Q') : tWhile c tb D σ H := by
  refine ⟨fun m σ H => m = μ σ H ∧ Pv σ H, ⟨_, rfl, h0⟩, ?_⟩
  rintro m σ H ⟨rfl, p⟩
  refine mono σ H _ _ (fun b H1 q => ?_) (hs σ H p)
  cases b with
  | true => exact ⟨_, fun σ' H' ⟨p', l⟩ => ⟨_, l, rfl, p'⟩, q⟩
  | false => exact q
end L2

namespace L2
open PySem PySem.Spec PyProof.Rows

abbrev R2 := V → V → Hp → VK → Prop
/-- a two-place operation on values: f is binaryOp op, inplaceOp op or compareOp op -/
def OpR (X : Cx) (f : Value → Value → Sem Value) (r : R2) : Prop :=
  ∀ (pins : List (Addr × Obj)) (s : Shared) (σ : St) (H : Hp) (x y : V) (v u : Value) (Q : VK), Inv X pins σ H s → RelV x v → RelV y u → r x y H Q →
    wpAny (model X.prog X.w) X.A (f v u) (EP X pins σ Q) X.xe s
/-- a one-place operation -/
def UnR (X : Cx) (f : Value → Sem Value) (r : V → Hp → VK → Prop) : Prop :=
  ∀ (pins : List (Addr × Obj)) (s : Shared) (σ : St) (H : Hp) (x : V) (v : Value) (Q : VK), Inv X pins σ H s → RelV x v → r x H Q →
    wpAny (model X.prog X.w) X.A (f v) (EP X pins σ Q) X.xe s
/-- a call of a value that is known (a builtin, a type) with values -/
def CallR (X : Cx) (f : Value) (r : List V → Hp → VK → Prop) : Prop :=
  ∀ (pins : List (Addr × Obj)) (s : Shared) (σ : St) (H : Hp) (xs : List V) (us : List Value) (Q : VK), Inv X pins σ H s → Vals xs us → r xs H Q →
    wpAny (model X.prog X.w) X.A (call f us) (EP X pins σ Q) X.xe s
/-- a value's truth -/
def TruR (X : Cx) (r : V → Hp → (Bool → Hp → Prop) → Prop) : Prop :=
  ∀ (pins : List (Addr × Obj)) (s : Shared) (σ : St) (H : Hp) (x : V) (v : Value) (Q : Bool → Hp → Prop), Inv X pins σ H s → RelV x v → r x H Q →
    wpAny (model X.prog X.w) X.A (truthy v) (TP X pins σ Q) X.xe s

def tOp (r : R2) (ta tb : TE) : TE := fun σ H Q => ta σ H fun x H1 => tb σ H1 fun y H2 => r x y H2 Q
def tUn (r : V → Hp → VK → Prop) (ta : TE) : TE := fun σ H Q => ta σ H fun x H1 => r x H1 Q
/-- ints in, under C, and a value out -/
def rI (C : Int → Int → Prop) (g : Int → Int → V) : R2 := fun x y H Q => ∃ i j, x = .int i ∧ y = .int j ∧ C i j ∧ Q (g i j) H
def rI0 (g : Int → Int → V) : R2 := fun x y H Q => ∃ i j, x = .int i ∧ y = .int j ∧ Q (g i j) H
def rU (g : Int → V) : V → Hp → VK → Prop := fun x H Q => ∃ i, x = .int i ∧ Q (g i) H

section
variable {X : Cx} {a b c : Expr} {ta tb tc : TE} {pos : Pos}

theorem binT (ha : PE X a ta) (hb : PE X b tb) {pins : List (Addr × Obj)} {s : Shared} {σ : St} {H : Hp} {R : V → V → Hp → Prop} (I : Inv X pins σ H s)
    (h : ta σ H fun x H1 => tb σ H1 fun y H2 => R x y H2) {Q : Value → Shared → Prop} {f : Value → Value → Sem Value}
    (hf : ∀ v u s2 x y H2, Inv X pins σ H2 s2 → RelV x v → RelV y u → R x y H2 → wpAny (model X.prog X.w) X.A (f v u) Q X.xe s2) :
    wpAny (model X.prog X.w) X.A (eval a X.env) (fun v s₁ => wpAny (model X.prog X.w) X.A (eval b X.env) (fun u s₂ => wpAny (model X.prog X.w) X.A (f v u) Q X.xe s₂) X.xe s₁) X.xe s := by
  refine thn (ha pins s σ H _ I h) fun v s1 ⟨x, H1, I1, r1, q1⟩ => ?_
  refine thn (hb pins s1 σ H1 _ I1 q1) fun u s2 ⟨y, H2, I2, r2, q2⟩ => ?_
  exact hf v u s2 x y H2 I2 r1 r2 q2

theorem pe_op {op : Operator} {r : R2} (ho : OpR X (binaryOp op) r) (ha : PE X a ta) (hb : PE X b tb) : PE X (.BinOp a op b pos) (tOp r ta tb) := by
  intro pins s σ H Q I h
  exact wpAny_BinOp (binT ha hb I h fun v u s2 x y H2 I2 rx ry q => ho pins s2 σ H2 x y v u Q I2 rx ry q)
theorem pe_un {op : UnaryOp} {r : V → Hp → VK → Prop} (ho : UnR X (unaryOp op) r) (ha : PE X a ta) : PE X (.UnaryOp op a pos) (tUn r ta) := by
  intro pins s σ H Q I h
  exact UnaryOp_ (thn (ha pins s σ H _ I h) fun v s1 ⟨x, H1, I1, r1, q1⟩ => ho pins s1 σ H1 x v Q I1 r1 q1)
/-- a op= e at a name: the name's slot i -/
theorem augR {op : Operator} {r : R2} (ho : OpR X (inplaceOp op) r) {pins : List (Addr × Obj)} {s : Shared} {σ : St} {H : Hp} {x y : V} {v u : Value} {Q : VK} (I : Inv X pins σ H s)
    (rx : RelV x v) (ry : RelV y u) (q : r x y H Q) : wpAny (model X.prog X.w) X.A (inplaceOp op v u) (EP X pins σ Q) X.xe s := ho pins s σ H x y v u Q I rx ry q

/-! ### ints -/
theorem opI {f : Value → Value → Sem Value} {C : Int → Int → Prop} {g : Int → Int → Int}
    (rule : ∀ (i j : Int) (t u : Tok) (s : Shared) (Q : Value → Shared → Prop) (E : Value → Shared → Prop), C i j → Q (.int (g i j) s.toks) { s with toks := s.toks + 1 } → wpAny (model X.prog X.w) X.A (f (.int i t) (.int j u)) Q E s) :
    OpR X f (rI C fun i j => .int (g i j)) := by
  intro pins s σ H x y v u Q I rx ry h
  obtain ⟨i, j, rfl, rfl, hc, q⟩ := h
  obtain ⟨t, rfl⟩ := rx
  obtain ⟨t', rfl⟩ := ry
  exact rule i j t t' s _ _ hc ⟨.int (g i j), H, I.tok _, ⟨_, rfl⟩, q⟩
theorem opI0 {f : Value → Value → Sem Value} {g : Int → Int → Int}
    (rule : ∀ (i j : Int) (t u : Tok) (s : Shared) (Q : Value → Shared → Prop) (E : Value → Shared → Prop), Q (.int (g i j) s.toks) { s with toks := s.toks + 1 } → wpAny (model X.prog X.w) X.A (f (.int i t) (.int j u)) Q E s) :
    OpR X f (rI0 fun i j => .int (g i j)) := by
  intro pins s σ H x y v u Q I rx ry h
  obtain ⟨i, j, rfl, rfl, q⟩ := h
  obtain ⟨t, rfl⟩ := rx
  obtain ⟨t', rfl⟩ := ry
  exact rule i j t t' s _ _ ⟨.int (g i j), H, I.tok _, ⟨_, rfl⟩, q⟩
theorem opB0 {f : Value → Value → Sem Value} {g : Int → Int → Bool}
    (rule : ∀ (i j : Int) (t u : Tok) (s : Shared) (Q : Value → Shared → Prop) (E : Value → Shared → Prop), Q (.bool (g i j)) s → wpAny (model X.prog X.w) X.A (f (.int i t) (.int j u)) Q E s) :
    OpR X f (rI0 fun i j => .bl (g i j)) := by
  intro pins s σ H x y v u Q I rx ry h
  obtain ⟨i, j, rfl, rfl, q⟩ := h
  obtain ⟨t, rfl⟩ := rx
  obtain ⟨t', rfl⟩ := ry
  exact rule i j t t' s _ _ ⟨.bl (g i j), H, I, rfl, q⟩

def CDiv (i j : Int) : Prop := 0 < j ∧ j < 1073741824
def CDivN (i j : Int) : Prop := j ≠ 0 ∧ j.natAbs < 1073741824
def CPow (i j : Int) : Prop := 0 ≤ j ∧ j ≤ 1000000 ∧ i.natAbs < 2 ^ 64
def CMul (i j : Int) : Prop := (-(2 ^ 64) < i ∧ i < 2 ^ 64) ∨ (-(2 ^ 64) < j ∧ j < 2 ^ 64)
theorem CMul.ok {i j : Int} (h : CMul i j) : IntMulOk i j := by
  rcases h with ⟨h1, h2⟩ | ⟨h1, h2⟩
  · exact .of_left (intBits_le_64 h1 h2)
  · exact .of_right (intBits_le_64 h1 h2)
theorem two_pow_nn (k : Nat) : (0 : Int) ≤ 2 ^ k := by
  rw [two_pow_cast]
  exact Int.natCast_nonneg _

theorem op_add : OpR X (binaryOp .Add) (rI0 fun i j => .int (i + j)) := opI0 fun _ _ _ _ _ _ _ q => add_int q
theorem op_sub : OpR X (binaryOp .Sub) (rI0 fun i j => .int (i - j)) := opI0 fun _ _ _ _ _ _ _ q => sub_int q
theorem op_mul : OpR X (binaryOp .Mult) (rI CMul fun i j => .int (i * j)) := opI fun _ _ _ _ _ _ _ hc q => mul_int q hc.ok
/-- // by a positive divisor -/
theorem op_fdiv : OpR X (binaryOp .FloorDiv) (rI CDiv fun i j => .int (i / j)) := opI fun i j _ _ _ _ _ hc q => by
  have h1 : (0 : Int) < j := hc.1
  have h2 : j < 1073741824 := hc.2
  exact floordiv_int (by omega) (by rw [Int.fdiv_eq_ediv_of_nonneg i (by omega)]; exact q) (.inl (PyProof.noPylong_small (by omega)))
theorem op_fdivN : OpR X (binaryOp .FloorDiv) (rI CDivN fun i j => .int (i.fdiv j)) := opI fun _ _ _ _ _ _ _ hc q => floordiv_int hc.1 q (.inl (PyProof.noPylong_small hc.2))
/-- % by a positive divisor of any size -/
theorem op_mod : OpR X (binaryOp .Mod) (rI (fun _ j => 0 < j) fun i j => .int (i % j)) := opI fun i j _ _ _ _ _ hc q => by
  have h1 : (0 : Int) < j := hc
  exact mod_int' (by omega) (by rw [Int.fmod_eq_emod_of_nonneg i (by omega)]; exact q)
theorem op_modN : OpR X (binaryOp .Mod) (rI (fun _ j => j ≠ 0) fun i j => .int (i.fmod j)) := opI fun _ _ _ _ _ _ _ hc q => mod_int' hc q
theorem op_pow : OpR X (binaryOp .Pow) (rI CPow fun i j => .int (i ^ j.toNat)) := opI fun _ _ _ _ _ _ _ hc q => pow_int_small hc.1 hc.2.1 hc.2.2 q
theorem op_shl : OpR X (binaryOp .LShift) (rI CPow fun i j => .int (i * 2 ^ j.toNat)) := opI fun _ _ _ _ _ _ _ hc q => lshift_int_small hc.1 hc.2.1 hc.2.2 q
theorem op_shr : OpR X (binaryOp .RShift) (rI (fun _ j => 0 ≤ j) fun i j => .int (i / 2 ^ j.toNat)) := opI fun i j _ _ _ _ _ hc q =>
  rshift_int hc (by rw [Int.fdiv_eq_ediv_of_nonneg i (two_pow_nn _)]; exact q)
theorem op_and : OpR X (binaryOp .BitAnd) (rI0 fun i j => .int (Builtin.bitAnd i j)) := opI0 fun _ _ _ _ _ _ _ q => and_int q
theorem op_or : OpR X (binaryOp .BitOr) (rI0 fun i j => .int (Builtin.bitOr i j)) := opI0 fun _ _ _ _ _ _ _ q => or_int q
theorem op_xor : OpR X (binaryOp .BitXor) (rI0 fun i j => .int (Builtin.bitXor i j)) := opI0 fun _ _ _ _ _ _ _ q => xor_int q

theorem iop_add : OpR X (inplaceOp .Add) (rI0 fun i j => .int (i + j)) := opI0 fun _ _ _ _ _ _ _ q => iadd_int q
theorem iop_sub : OpR X (inplaceOp .Sub) (rI0 fun i j => .int (i - j)) := opI0 fun _ _ _ _ _ _ _ q => isub_int q
theorem iop_mul : OpR X (inplaceOp .Mult) (rI CMul fun i j => .int (i * j)) := opI fun _ _ _ _ _ _ _ hc q => imul_int q hc.ok
theorem iop_fdiv : OpR X (inplaceOp .FloorDiv) (rI CDiv fun i j => .int (i / j)) := opI fun i j _ _ _ _ _ hc q => by
  have h1 : (0 : Int) < j := hc.1
  have h2 : j < 1073741824 := hc.2
  exact ifloordiv_int (by omega) (by rw [Int.fdiv_eq_ediv_of_nonneg i (by omega)]; exact q) (.inl (PyProof.noPylong_small (by omega)))
theorem iop_mod : OpR X (inplaceOp .Mod) (rI (fun _ j => 0 < j) fun i j => .int (i % j)) := opI fun i j _ _ _ _ _ hc q => by
  have h1 : (0 : Int) < j := hc
  exact imod_int (by omega) (by rw [Int.fmod_eq_emod_of_nonneg i (by omega)]; exact q)
theorem iop_shl : OpR X (inplaceOp .LShift) (rI CPow fun i j => .int (i * 2 ^ j.toNat)) := opI fun _ _ _ _ _ _ _ hc q => ilshift_int_small hc.1 hc.2.1 hc.2.2 q
theorem iop_shr : OpR X (inplaceOp .RShift) (rI (fun _ j => 0 ≤ j) fun i j => .int (i / 2 ^ j.toNat)) := opI fun i j _ _ _ _ _ hc q =>
  irshift_int hc (by rw [Int.fdiv_eq_ediv_of_nonneg i (two_pow_nn _)]; exact q)
theorem iop_and : OpR X (inplaceOp .BitAnd) (rI0 fun i j => .int (Builtin.bitAnd i j)) := opI0 fun _ _ _ _ _ _ _ q => iand_int q
theorem iop_or : OpR X (inplaceOp .BitOr) (rI0 fun i j => .int (Builtin.bitOr i j)) := opI0 fun _ _ _ _ _ _ _ q => ior_int q
theorem iop_xor : OpR X (inplaceOp .BitXor) (rI0 fun i j => .int (Builtin.bitXor i j)) := opI0 fun _ _ _ _ _ _ _ q => ixor_int q

theorem unI {f : Value → Sem Value} {g : Int → Int}
    (rule : ∀ (i : Int) (t : Tok) (s : Shared) (Q : Value → Shared → Prop) (E : Value → Shared → Prop), Q (.int (g i) s.toks) { s with toks := s.toks + 1 } → wpAny (model X.prog X.w) X.A (f (.int i t)) Q E s) :
    UnR X f (rU fun i => .int (g i)) := by
  intro pins s σ H x v Q I rx h
  obtain ⟨i, rfl, q⟩ := h
  obtain ⟨t, rfl⟩ := rx
  exact rule i t s _ _ ⟨.int (g i), H, I.tok _, ⟨_, rfl⟩, q⟩
theorem un_neg : UnR X (unaryOp .USub) (rU fun i => .int (-i)) := unI fun _ _ _ _ _ q => neg_int q
theorem un_inv : UnR X (unaryOp .Invert) (rU fun i => .int (Builtin.bitNot i)) := unI fun _ _ _ _ _ q => invert_int q

/-! ### bools among ints: n += (a < b) -/
theorem op_add_ib : OpR X (binaryOp .Add) (fun x y H Q => ∃ i k, x = .int i ∧ y = .bl k ∧ Q (.int (i + b2i k)) H) := by
  intro pins s σ H x y v u Q I rx ry h
  obtain ⟨i, k, rfl, rfl, q⟩ := h
  obtain ⟨t, rfl⟩ := rx
  cases ry
  exact add_int_bool ⟨.int (i + b2i k), H, I.tok _, ⟨_, rfl⟩, q⟩
end

/-! ### comparisons -/
/-- the scalars that == tells apart as data does -/
def scal : V → V → Bool
  | .non, .non => true | .non, .int _ => true | .int _, .non => true | .non, .bl _ => true | .bl _, .non => true | .non, .str _ => true | .str _, .non => true
  | .int _, .int _ => true | .bl _, .bl _ => true | .str _, .str _ => true | .byt _, .byt _ => true
  | .int _, .str _ => true | .str _, .int _ => true | .bl _, .str _ => true | .str _, .bl _ => true
  | _, _ => false
def rEq : R2 := fun x y H Q => scal x y = true ∧ Q (.bl (decide (x = y))) H
def rNe : R2 := fun x y H Q => scal x y = true ∧ Q (.bl (!decide (x = y))) H

theorem dec_int {i j : Int} : decide (V.int i = V.int j) = (i == j) := by
  rw [Bool.eq_iff_iff]
  simp
theorem dec_bl {i j : Bool} : decide (V.bl i = V.bl j) = (i == j) := by
  rw [Bool.eq_iff_iff]
  simp
theorem dec_str {i j : Str} : decide (V.str i = V.str j) = (i == j) := by
  rw [Bool.eq_iff_iff]
  simp
theorem dec_byt {i j : Array UInt8} : decide (V.byt i = V.byt j) = (i.toList == j.toList) := by
  rw [Bool.eq_iff_iff]
  cases i
  cases j
  simp

section
variable {X : Cx} {a b c : Expr} {ta tb tc : TE} {pos : Pos}
theorem fin_bl {pins : List (Addr × Obj)} {σ : St} {H : Hp} {s : Shared} {Q : VK} {k k' : Bool} (I : Inv X pins σ H s) (q : Q (.bl k) H) (e : k = k') : EP X pins σ Q (.bool k') s := by
  subst e
  exact ⟨.bl k, H, I, rfl, q⟩
theorem op_eq : OpR X (compareOp .Eq) rEq := by
  intro pins s σ H x y v u Q I rx ry h
  obtain ⟨hs, q⟩ := h
  cases x with
  | non =>
    cases rx
    cases y with
    | non => cases ry; exact PySem.EqNone.eq_none_none (fin_bl I q (by simp))
    | bl j => cases ry; exact PySem.EqNone.eq_none_bool (fin_bl I q (by simp))
    | int j => obtain ⟨t', rfl⟩ := ry; exact PySem.EqNone.eq_none_int (fin_bl I q (by simp))
    | str j => obtain ⟨t', rfl⟩ := ry; exact PySem.EqNone.eq_none_str (fin_bl I q (by simp))
    | _ => exact absurd (show false = true from hs) Bool.false_ne_true
  | bl i =>
    cases rx
    cases y with
    | non => cases ry; exact PySem.EqNone.eq_bool_none (fin_bl I q (by simp))
    | bl j => cases ry; exact eq_bool (fin_bl I q dec_bl)
    | str j => obtain ⟨t', rfl⟩ := ry; exact PySem.EqMixed.eq_bool_str (fin_bl I q (by simp))
    | _ => exact absurd (show false = true from hs) Bool.false_ne_true
  | int i =>
    obtain ⟨t, rfl⟩ := rx
    cases y with
    | non => cases ry; exact PySem.EqNone.eq_int_none (fin_bl I q (by simp))
    | int j => obtain ⟨t', rfl⟩ := ry; exact eq_int (fin_bl I q dec_int)
    | str j => obtain ⟨t', rfl⟩ := ry; exact PySem.EqMixed.eq_int_str (fin_bl I q (by simp))
    | _ => exact absurd (show false = true from hs) Bool.false_ne_true
  | str i =>
    obtain ⟨t, rfl⟩ := rx
    cases y with
    | non => cases ry; exact PySem.EqNone.eq_str_none (fin_bl I q (by simp))
    | bl j => cases ry; exact PySem.EqMixed.eq_str_bool (fin_bl I q (by simp))
    | int j => obtain ⟨t', rfl⟩ := ry; exact PySem.EqMixed.eq_str_int (fin_bl I q (by simp))
    | str j => obtain ⟨t', rfl⟩ := ry; exact eq_str (fin_bl I q dec_str)
    | _ => exact absurd (show false = true from hs) Bool.false_ne_true
  | byt i =>
    obtain ⟨t, rfl⟩ := rx
    cases y with
    | byt j => obtain ⟨t', rfl⟩ := ry; exact PySem.W.eq_bytes (fin_bl I q dec_byt)
    | _ => exact absurd (show false = true from hs) Bool.false_ne_true
  | _ => cases y <;> exact absurd (show false = true from hs) Bool.false_ne_true
theorem op_ne : OpR X (compareOp .NotEq) rNe := by
  intro pins s σ H x y v u Q I rx ry h
  obtain ⟨hs, q⟩ := h
  cases x with
  | non =>
    cases rx
    cases y with
    | non => cases ry; exact PySem.EqNone.ne_none_none (fin_bl I q (by simp))
    | bl j => cases ry; exact PySem.EqNone.ne_none_bool (fin_bl I q (by simp))
    | int j => obtain ⟨t', rfl⟩ := ry; exact PySem.EqNone.ne_none_int (fin_bl I q (by simp))
    | str j => obtain ⟨t', rfl⟩ := ry; exact PySem.EqNone.ne_none_str (fin_bl I q (by simp))
    | _ => exact absurd (show false = true from hs) Bool.false_ne_true
  | bl i =>
    cases rx
    cases y with
    | non => cases ry; exact PySem.EqNone.ne_bool_none (fin_bl I q (by simp))
    | bl j => cases ry; exact ne_bool (fin_bl I q (congrArg not dec_bl))
    | str j => obtain ⟨t', rfl⟩ := ry; exact PySem.EqMixed.ne_bool_str (fin_bl I q (by simp))
    | _ => exact absurd (show false = true from hs) Bool.false_ne_true
  | int i =>
    obtain ⟨t, rfl⟩ := rx
    cases y with
    | non => cases ry; exact PySem.EqNone.ne_int_none (fin_bl I q (by simp))
    | int j => obtain ⟨t', rfl⟩ := ry; exact ne_int (fin_bl I q (congrArg not dec_int))
    | str j => obtain ⟨t', rfl⟩ := ry; exact PySem.EqMixed.ne_int_str (fin_bl I q (by simp))
    | _ => exact absurd (show false = true from hs) Bool.false_ne_true
  | str i =>
    obtain ⟨t, rfl⟩ := rx
    cases y with
    | non => cases ry; exact PySem.EqNone.ne_str_none (fin_bl I q (by simp))
    | bl j => cases ry; exact PySem.EqMixed.ne_str_bool (fin_bl I q (by simp))
    | int j => obtain ⟨t', rfl⟩ := ry; exact PySem.EqMixed.ne_str_int (fin_bl I q (by simp))
    | str j => obtain ⟨t', rfl⟩ := ry; exact ne_str (fin_bl I q (congrArg not dec_str))
    | _ => exact absurd (show false = true from hs) Bool.false_ne_true
  | byt i =>
    obtain ⟨t, rfl⟩ := rx
    cases y with
    | byt j => obtain ⟨t', rfl⟩ := ry; exact PySem.W.ne_bytes (fin_bl I q (congrArg not dec_byt))
    | _ => exact absurd (show false = true from hs) Bool.false_ne_true
  | _ => cases y <;> exact absurd (show false = true from hs) Bool.false_ne_true

theorem op_lt : OpR X (compareOp .Lt) (rI0 fun i j => .bl (decide (i < j))) := opB0 fun _ _ _ _ _ _ _ q => lt_int q
theorem op_le : OpR X (compareOp .LtE) (rI0 fun i j => .bl (decide (i ≤ j))) := opB0 fun _ _ _ _ _ _ _ q => le_int q
theorem op_gt : OpR X (compareOp .Gt) (rI0 fun i j => .bl (decide (j < i))) := opB0 fun _ _ _ _ _ _ _ q => gt_int q
theorem op_ge : OpR X (compareOp .GtE) (rI0 fun i j => .bl (decide (j ≤ i))) := opB0 fun _ _ _ _ _ _ _ q => ge_int q
theorem op_lt_str : OpR X (compareOp .Lt) (fun x y H Q => ∃ i j, x = .str i ∧ y = .str j ∧ Q (.bl (decide (i.cps.toList < j.cps.toList))) H) := by
  intro pins s σ H x y v u Q I rx ry h
  obtain ⟨i, j, rfl, rfl, q⟩ := h
  obtain ⟨t, rfl⟩ := rx
  obtain ⟨t', rfl⟩ := ry
  exact lt_str (fin_bl I q rfl)
/-- the one string within the other -/
theorem op_in_str : OpR X (compareOp .In) (fun x y H Q => ∃ i j, x = .str i ∧ y = .str j ∧ Q (.bl (!(Builtin.Str.occurrences j i 0 j.length 1).isEmpty)) H) := by
  intro pins s σ H x y v u Q I rx ry h
  obtain ⟨i, j, rfl, rfl, q⟩ := h
  obtain ⟨t, rfl⟩ := rx
  obtain ⟨t', rfl⟩ := ry
  exact in_str (fin_bl I q rfl)

/-- is None, is not None: the right side a value none -/
theorem op_isN : OpR X (compareOp .Is) (fun x y H Q => y = .non ∧ Q (.bl (decide (x = .non))) H) := by
  intro pins s σ H x y v u Q I rx ry h
  obtain ⟨rfl, q⟩ := h
  cases ry
  refine is_none_gen (fin_bl I q ?_)
  cases x <;> first
    | (cases rx; rfl)
    | (obtain ⟨t, rfl⟩ := rx; rfl)
theorem op_notN : OpR X (compareOp .IsNot) (fun x y H Q => y = .non ∧ Q (.bl (!decide (x = .non))) H) := by
  intro pins s σ H x y v u Q I rx ry h
  obtain ⟨rfl, q⟩ := h
  cases ry
  refine isnot_none_gen (fin_bl I q ?_)
  cases x <;> first
    | (cases rx; rfl)
    | (obtain ⟨t, rfl⟩ := rx; rfl)

theorem op_notin_str : OpR X (compareOp .NotIn) (fun x y H Q => ∃ i j, x = .str i ∧ y = .str j ∧ Q (.bl (!(!(Builtin.Str.occurrences j i 0 j.length 1).isEmpty))) H) := by
  intro pins s σ H x y v u Q I rx ry h
  obtain ⟨i, j, rfl, rfl, q⟩ := h
  obtain ⟨t, rfl⟩ := rx
  obtain ⟨t', rfl⟩ := ry
  exact notIn_str (fin_bl I q rfl)
/-- is, is not of two objects that are tracked lists or instances -/
def isObj : HO → Bool
  | .lst _ => true
  | .ins _ _ _ => true
  | _ => false
theorem obj_there {pins : List (Addr × Obj)} {s : Shared} {σ : St} {H : Hp} {a : Addr} {o : HO} (I : Inv X pins σ H s) (h : H a = some o) (p : isObj o = true) : ∃ ob, s.heap.get? a = some ob ∧ ob.cls ≠ .type "tuple" := by
  cases o with
  | lst xs =>
    obtain ⟨_, its, n, _, e⟩ : xs.length ≤ sizeLine ∧ ∃ (its : List Value) (n : Nat), Vals xs its ∧ s.heap.get? a = some { cls := .type "list", data := .seq its.toArray n } := I.hok a _ h
    exact ⟨_, e, (by show Value.type "list" ≠ .type "tuple"; decide +kernel)⟩
  | ins C dx fs =>
    have x := I.hok a _ h
    obtain ⟨_, _, _, e, _⟩ := x
    exact ⟨_, e, (by show Value.ref C ≠ .type "tuple"; exact fun z => by cases z)⟩
  | _ => exact absurd (show false = true from p) Bool.false_ne_true
theorem op_is_ref : OpR X (compareOp .Is) (fun x y H Q => ∃ a b oa ob, x = .ref a ∧ y = .ref b ∧ H a = some oa ∧ isObj oa = true ∧ H b = some ob ∧ isObj ob = true ∧ Q (.bl (decide (a = b))) H) := by
  intro pins s σ H x y v u Q I rx ry h
  obtain ⟨a, b, oa, ob, rfl, rfl, ha, pa, hb, pb, q⟩ := h
  cases rx
  cases ry
  obtain ⟨o1, e1, n1⟩ := obj_there I ha pa
  obtain ⟨o2, e2, _⟩ := obj_there I hb pb
  by_cases z : a = b
  · subst z
    exact wpAny_is_ref_self (fin_bl I q (by simp))
  · exact wpAny_is_ref_other z e1 e2 n1 (fin_bl I q (by simp [z]))
theorem op_isnot_ref : OpR X (compareOp .IsNot) (fun x y H Q => ∃ a b oa ob, x = .ref a ∧ y = .ref b ∧ H a = some oa ∧ isObj oa = true ∧ H b = some ob ∧ isObj ob = true ∧ Q (.bl (!decide (a = b))) H) := by
  intro pins s σ H x y v u Q I rx ry h
  obtain ⟨a, b, oa, ob, rfl, rfl, ha, pa, hb, pb, q⟩ := h
  cases rx
  cases ry
  obtain ⟨o1, e1, n1⟩ := obj_there I ha pa
  obtain ⟨o2, e2, _⟩ := obj_there I hb pb
  by_cases z : a = b
  · subst z
    exact wpAny_isNot_ref_self (fin_bl I q (by simp))
  · exact wpAny_isNot_ref_other z e1 e2 n1 (fin_bl I q (by simp [z]))

/-- two rules for one operation: by cases -/
theorem OpR.or {f : Value → Value → Sem Value} {r r' : R2} (h : OpR X f r) (h' : OpR X f r') : OpR X f (fun x y H Q => r x y H Q ∨ r' x y H Q) := by
  intro pins s σ H x y v u Q I rx ry q
  rcases q with q | q
  · exact h pins s σ H x y v u Q I rx ry q
  · exact h' pins s σ H x y v u Q I rx ry q

theorem nomark (b : Expr) {op : CmpOp} (h : op ≠ .In := by decide) (h2 : op ≠ .NotIn := by decide) : behindInMarks op b = false := by
  have e1 : (op == CmpOp.In) = false := by cases op <;> first | rfl | exact absurd rfl h
  have e2 : (op == CmpOp.NotIn) = false := by cases op <;> first | rfl | exact absurd rfl h2
  cases b <;> simp [behindInMarks, e1, e2]
/-- a comparison as a value; hm: nomark b, or (for in, not in) by with_unfolding_all rfl -/
theorem pe_cmpR {op : CmpOp} {r : R2} (ho : OpR X (compareOp op) r) (ha : PE X a ta) (hb : PE X b tb) (hm : behindInMarks op b = false) : PE X (.Compare a [op] [b] pos) (tOp r ta tb) := by
  intro pins s σ H Q I h
  exact wpAny_Compare1 (binT ha hb I h fun v u s2 x y H2 I2 rx ry q => ho pins s2 σ H2 x y v u Q I2 rx ry q) hm
/-- a reading of a value as a test -/
def tTest (t : TE) : TT := fun σ H Q => t σ H fun x H' => ∃ k, x = .bl k ∧ Q k H'
theorem pt_cmpR {op : CmpOp} {r : R2} (ho : OpR X (compareOp op) r) (ha : PE X a ta) (hb : PE X b tb) (hm : behindInMarks op b = false) : PT X (.Compare a [op] [b] pos) (tTest (tOp r ta tb)) := by
  intro pins s σ H Q I h
  refine wpAny_isTrue_Compare1 (thn (ha pins s σ H _ I h) fun v s1 ⟨x, H1, I1, r1, q1⟩ => thn (hb pins s1 σ H1 _ I1 q1) fun u s2 ⟨y, H2, I2, r2, q2⟩ =>
    thn (ho pins s2 σ H2 x y v u _ I2 r1 r2 q2) fun c s3 ⟨z, H3, I3, r3, k, e, q3⟩ => ?_) hm
  subst e
  cases r3
  exact wpAny_truthy_bool ⟨H3, I3, q3⟩
/-- a op1 b op2 c -/
def tChain (r r' : R2) (ta tb tc : TE) : TE := fun σ H Q => ta σ H fun x H1 => tb σ H1 fun y H2 => r x y H2 fun z H3 => ∃ k, z = .bl k ∧
  (if k = true then tc σ H3 fun w' H4 => r' y w' H4 Q else Q (.bl false) H3)
theorem pe_chain {op op' : CmpOp} {r r' : R2} (ho : OpR X (compareOp op) r) (ho' : OpR X (compareOp op') r') (ha : PE X a ta) (hb : PE X b tb) (hc : PE X c tc)
    (hm : lastMarks [op, op'] [b, c] = false := by with_unfolding_all rfl) : PE X (.Compare a [op, op'] [b, c] pos) (tChain r r' ta tb tc) := by
  intro pins s σ H Q I h
  refine Compare_chain (thn (ha pins s σ H _ I h) fun v s1 ⟨x, H1, I1, r1, q1⟩ => chain_link (thn (hb pins s1 σ H1 _ I1 q1) fun u s2 ⟨y, H2, I2, r2, q2⟩ =>
    thn (ho pins s2 σ H2 x y v u _ I2 r1 r2 q2) fun d s3 ⟨z, H3, I3, r3, k, e, q3⟩ => ?_)) hm
  subst e
  cases r3
  refine wpAny_truthy_bool ?_
  cases k with
  | false => exact ite_ff ⟨.bl false, H3, I3, rfl, q3⟩
  | true => exact ite_tt (chain_last (thn (hc pins s3 σ H3 _ I3 q3) fun w' s4 ⟨z', H4, I4, r4, q4⟩ => ho' pins s4 σ H4 y z' u w' Q I4 r2 r4 q4))
theorem pt_chain {op op' : CmpOp} {r r' : R2} (ho : OpR X (compareOp op) r) (ho' : OpR X (compareOp op') r') (ha : PE X a ta) (hb : PE X b tb) (hc : PE X c tc)
    (hm : lastMarks [op, op'] [b, c] = false := by with_unfolding_all rfl) : PT X (.Compare a [op, op'] [b, c] pos) (tTest (tChain r r' ta tb tc)) := by
  intro pins s σ H Q I h
  refine isTrue_chain (thn (ha pins s σ H _ I h) fun v s1 ⟨x, H1, I1, r1, q1⟩ => test_link (thn (hb pins s1 σ H1 _ I1 q1) fun u s2 ⟨y, H2, I2, r2, q2⟩ =>
    thn (ho pins s2 σ H2 x y v u _ I2 r1 r2 q2) fun d s3 ⟨z, H3, I3, r3, k, e, q3⟩ => ?_)) hm
  subst e
  cases r3
  refine wpAny_truthy_bool ?_
  cases k with
  | false =>
    obtain ⟨k', e', q'⟩ := q3
    cases e'
    exact ite_ff ⟨H3, I3, q'⟩
  | true =>
    refine ite_tt (test_last (thn (hc pins s3 σ H3 _ I3 q3) fun w' s4 ⟨z', H4, I4, r4, q4⟩ => thn (ho' pins s4 σ H4 y z' u w' _ I4 r2 r4 q4) fun d' s5 ⟨z2, H5, I5, r5, k2, e2, q5⟩ => ?_))
    subst e2
    cases r5
    exact wpAny_truthy_bool ⟨H5, I5, q5⟩

/-! ### truth -/
/-- a value's truth by the abstract heap -/
def TruV (K : PySem.W.Frag) (x : V) (H : Hp) (k : Bool) : Prop :=
  match x with
  | .non => k = false
  | .bl b => k = b
  | .int i => k = (i != 0)
  | .str y => y.length ≤ sizeLine ∧ k = ((y.length : Int) != 0)
  | .byt y => y.size ≤ sizeLine ∧ k = ((y.size : Int) != 0)
  | .ref p => (∃ xs, SqL K H p xs ∧ k = !xs.isEmpty) ∨ (∃ xs, SqT K H p xs ∧ k = !xs.isEmpty) ∨ ∃ kvs, H p = some (.dK kvs) ∧ k = !kvs.isEmpty
  | _ => False
theorem isEmpty_kv {κ : Type} {kvs : List (κ × V)} {vs : List (κ × Value)} (r : KV kvs vs) : (!vs.isEmpty) = !kvs.isEmpty := by
  cases r <;> rfl
theorem isEmpty_of {xs : List V} {its : List Value} (r : Vals xs its) : (!its.toArray.isEmpty) = !xs.isEmpty := by
  cases r <;> simp
theorem line63 : (sizeLine : Nat) < 2 ^ 63 := by rw [sizeLine_eq]; decide
theorem tru_ok : TruR X (fun x H Q => ∃ k, TruV X.K x H k ∧ Q k H) := by
  intro pins s σ H x v Q I rx h
  obtain ⟨k, e, q⟩ := h
  have hl := line63
  have hs : sizeLine = 16777216 := sizeLine_eq
  cases x with
  | non =>
    cases rx
    have e' : k = false := e
    subst e'
    exact truthy_none ⟨H, I, q⟩
  | bl b =>
    cases rx
    have e' : k = b := e
    subst e'
    exact wpAny_truthy_bool ⟨H, I, q⟩
  | int i =>
    obtain ⟨t, rfl⟩ := rx
    have e' : k = (i != 0) := e
    subst e'
    exact PySem.P.truthy_int ⟨H, I, q⟩
  | str y =>
    obtain ⟨t, rfl⟩ := rx
    obtain ⟨hy, e'⟩ : y.length ≤ sizeLine ∧ k = ((y.length : Int) != 0) := e
    subst e'
    exact PySem.P.truthy_str (by omega) ⟨H, I.tok _, q⟩
  | byt y =>
    obtain ⟨t, rfl⟩ := rx
    obtain ⟨hy, e'⟩ : y.size ≤ sizeLine ∧ k = ((y.size : Int) != 0) := e
    subst e'
    exact PySem.W.truthy_bytes (by omega) ⟨H, I.tok _, q⟩
  | ref p =>
    cases rx
    have e' : (∃ xs, SqL X.K H p xs ∧ k = !xs.isEmpty) ∨ (∃ xs, SqT X.K H p xs ∧ k = !xs.isEmpty) ∨ ∃ kvs, H p = some (.dK kvs) ∧ k = !kvs.isEmpty := e
    rcases e' with ⟨xs, hx, e'⟩ | ⟨xs, hx, e'⟩ | ⟨kvs, hx, e'⟩
    · subst e'
      obtain ⟨its, r, pl, hz⟩ := I.list hx
      have hlen := r.length
      exact wpAny_truthy_list pl.isList (by simp only [List.size_toArray]; omega) ⟨H, I.tok _, by rw [isEmpty_of r]; exact q⟩
    · subst e'
      obtain ⟨its, r, pl, hz⟩ := I.tuple hx
      have hlen := r.length
      exact truthy_tuple pl (by simp only [List.size_toArray]; omega) ⟨H, I.tok _, by rw [isEmpty_of r]; exact q⟩
    · subst e'
      obtain ⟨hz, hS, vs, r, m⟩ : kvs.length ≤ sizeLine ∧ (p == sysModules) = false ∧ ∃ vs, KV kvs vs ∧ s.heap.DictOf (mixKind X.prog X.w) p vs := I.hok p _ hx
      have hlen : kvs.length = vs.length := Paired.length r
      exact wpAny_truthy_dict hS m (by omega) ⟨H, I.tok _, by rw [isEmpty_kv r]; exact q⟩
  | _ => exact (show False from e).elim
/-- any expression whose test is its value's truth (a name, a call, a subscript, a field ..: he by fun _ => rfl) -/
theorem pt_truth (ha : PE X a ta) (he : ∀ whole, isTrue a X.env whole = (do let v ← whole; standAt a.pos; holding [v] (truthy v))) :
    PT X a (fun σ H Q => ta σ H fun x H' => ∃ k, TruV X.K x H' k ∧ Q k H') := by
  intro pins s σ H Q I h
  exact isTrue_plain (thn (ha pins s σ H _ I h) fun v s1 ⟨x, H1, I1, r1, q1⟩ => tru_ok pins s1 σ H1 x v Q I1 r1 q1) (he _)

/-! ### strs and bytes -/
theorem pe_byt {x : List UInt8} {k : Nat} : PE X (.Constant (.bytes x) k pos) (fun _ H Q => Q (.byt x.toArray) H) := fun _ _ _ H _ I h => PySem.W.Constant_bytes ⟨.byt x.toArray, H, I.tok _, ⟨_, rfl⟩, h⟩
theorem op_add_str : OpR X (binaryOp .Add) (fun x y H Q => ∃ i j, x = .str i ∧ y = .str j ∧ i.length + j.length ≤ sizeLine ∧ Q (.str (i ++ j)) H) := by
  intro pins s σ H x y v u Q I rx ry h
  obtain ⟨i, j, rfl, rfl, hz, q⟩ := h
  obtain ⟨t, rfl⟩ := rx
  obtain ⟨t', rfl⟩ := ry
  exact add_str (fun t' tk => ⟨.str (i ++ j), H, I.tok _, ⟨_, rfl⟩, q⟩) hz
theorem iop_add_str : OpR X (inplaceOp .Add) (fun x y H Q => ∃ i j, x = .str i ∧ y = .str j ∧ i.length + j.length ≤ sizeLine ∧ Q (.str (i ++ j)) H) := by
  intro pins s σ H x y v u Q I rx ry h
  obtain ⟨i, j, rfl, rfl, hz, q⟩ := h
  obtain ⟨t, rfl⟩ := rx
  obtain ⟨t', rfl⟩ := ry
  exact iadd_str (fun t' tk => ⟨.str (i ++ j), H, I.tok _, ⟨_, rfl⟩, q⟩) hz
theorem op_add_byt : OpR X (binaryOp .Add) (fun x y H Q => ∃ i j, x = .byt i ∧ y = .byt j ∧ i.size + j.size ≤ 16777216 ∧ Q (.byt (i ++ j)) H) := by
  intro pins s σ H x y v u Q I rx ry h
  obtain ⟨i, j, rfl, rfl, hz, q⟩ := h
  obtain ⟨t, rfl⟩ := rx
  obtain ⟨t', rfl⟩ := ry
  exact PySem.W.KBy.add_bytes hz (fun t' tk => ⟨.byt (i ++ j), H, I.tok _, ⟨_, rfl⟩, q⟩)

def PlainIxT (b : Expr) : Prop := ∀ o i, subscripted b false o i = operate [o, i] (getItem o i)
/-- s[i], 0 ≤ i < len -/
theorem pe_item_str (ha : PE X a ta) (hb : PE X b tb) (hs : PlainIxT b) :
    PE X (.Subscript a b pos) (tOp (fun x y H Q => ∃ z i c, x = .str z ∧ y = .int i ∧ 0 ≤ i ∧ i < 2 ^ 63 ∧ i < z.length ∧ z.cps[i.toNat]? = some c ∧ Q (.str ⟨#[c]⟩) H) ta tb) := by
  intro pins s σ H Q I h
  refine Subscript_ (binT ha hb I h fun v u s2 x y H2 I2 rx ry q => ?_)
  obtain ⟨z, i, c, rfl, rfl, h0, h63, h1, hc, q⟩ := q
  obtain ⟨t, rfl⟩ := rx
  obtain ⟨t', rfl⟩ := ry
  have e : seqIndex? i z.length = some i.toNat := PySem.StrLaws.seqIndex_nonneg h0 h1
  exact tail_any (typeIs_str s2 z t) slot_str_getitem.lookup (getItem_str (c := c) (by
    have e1 : decide (i < -(2 ^ 63 : Int)) = false := decide_eq_false (by omega)
    have e2 : decide (i ≥ 2 ^ 63) = false := decide_eq_false (by omega)
    rw [e1, e2] <;> rfl) (by rw [e]; exact hc) ⟨.str ⟨#[c]⟩, H2, I2.tok _, ⟨_, rfl⟩, q⟩) (hs _ _)
/-- b[i], 0 ≤ i < len -/
theorem pe_item_byt (ha : PE X a ta) (hb : PE X b tb) (hs : PlainIxT b) :
    PE X (.Subscript a b pos) (tOp (fun x y H Q => ∃ (z : List UInt8) (i : Int), x = .byt z.toArray ∧ y = .int i ∧ z.length ≤ sizeLine ∧ 0 ≤ i ∧ i < z.length ∧ Q (.int ((z.getD i.toNat 0).toNat : Nat)) H) ta tb) := by
  intro pins s σ H Q I h
  refine Subscript_ (binT ha hb I h fun v u s2 x y H2 I2 rx ry q => ?_)
  obtain ⟨z, i, rfl, rfl, hz, h0, h1, q⟩ := q
  obtain ⟨t, rfl⟩ := rx
  obtain ⟨t', rfl⟩ := ry
  have hl : sizeLine = 16777216 := sizeLine_eq
  exact tail_any (PySem.W.typeIs_bytes s2 z.toArray t) PySem.W.FB.slot_bytes_getitem.lookup (PySem.W.getItem_bytes (by omega) h0 h1 ⟨.int ((z.getD i.toNat 0).toNat : Nat), H2, I2.tok _, ⟨_, rfl⟩, q⟩) (hs _ _)

/-! ### scalar builtins, by CallR -/
theorem vals1 {x : V} {us : List Value} (r : Vals [x] us) : ∃ u, us = [u] ∧ RelV x u := by
  cases r with
  | cons r1 r2 => cases r2; exact ⟨_, rfl, r1⟩
theorem vals2 {x y : V} {us : List Value} (r : Vals [x, y] us) : ∃ u w', us = [u, w'] ∧ RelV x u ∧ RelV y w' := by
  cases r with
  | cons r1 r2 =>
    cases r2 with
    | cons r3 r4 => cases r4; exact ⟨_, _, rfl, r1, r3⟩
theorem call_abs : CallR X (.builtin "abs") (fun xs H Q => ∃ i, xs = [.int i] ∧ Q (.int (if i < 0 then -i else i)) H) := by
  intro pins s σ H xs us Q I r h
  obtain ⟨i, rfl, q⟩ := h
  obtain ⟨u, rfl, t, rfl⟩ := vals1 r
  exact call_abs_int fun u tk => ⟨.int (if i < 0 then -i else i), H, I.tok _, ⟨_, rfl⟩, q⟩
theorem call_max2 (hc : X.calm = true) : CallR X (.builtin "max") (fun xs H Q => ∃ i j, xs = [.int i, .int j] ∧ Q (.int (if j > i then j else i)) H) := by
  intro pins s σ H xs us Q I r h
  obtain ⟨i, j, rfl, q⟩ := h
  obtain ⟨u, w', rfl, ⟨t, rfl⟩, ⟨t', rfl⟩⟩ := vals2 r
  refine max_two_ints (I.ok.hd hc) fun h' tk k => ⟨_, H, I.kept k, ?_, q⟩
  by_cases hj : j > i
  · rw [if_pos hj, if_pos hj]; exact ⟨_, rfl⟩
  · rw [if_neg hj, if_neg hj]; exact ⟨_, rfl⟩
theorem call_min2 (hc : X.calm = true) : CallR X (.builtin "min") (fun xs H Q => ∃ i j, xs = [.int i, .int j] ∧ Q (.int (if j < i then j else i)) H) := by
  intro pins s σ H xs us Q I r h
  obtain ⟨i, j, rfl, q⟩ := h
  obtain ⟨u, w', rfl, ⟨t, rfl⟩, ⟨t', rfl⟩⟩ := vals2 r
  refine min_two_ints (I.ok.hd hc) fun h' tk k => ⟨_, H, I.kept k, ?_, q⟩
  by_cases hj : j < i
  · rw [if_pos hj, if_pos hj]; exact ⟨_, rfl⟩
  · rw [if_neg hj, if_neg hj]; exact ⟨_, rfl⟩
theorem call_int1 : CallR X (.type "int") (fun xs H Q => (∃ i, xs = [.int i] ∧ Q (.int i) H) ∨ ∃ k, xs = [.bl k] ∧ Q (.int (if k then 1 else 0)) H) := by
  intro pins s σ H xs us Q I r h
  rcases h with ⟨i, rfl, q⟩ | ⟨k, rfl, q⟩
  · obtain ⟨u, rfl, t, rfl⟩ := vals1 r
    exact call_int_int ⟨.int i, H, I, ⟨_, rfl⟩, q⟩
  · obtain ⟨u, rfl, r1⟩ := vals1 r
    cases r1
    exact call_int_bool ⟨.int (if k then 1 else 0), H, I.tok _, ⟨_, rfl⟩, q⟩
theorem call_bool1 : CallR X (.type "bool") (fun xs H Q => (∃ i, xs = [.int i] ∧ Q (.bl (i != 0)) H) ∨ ∃ k, xs = [.bl k] ∧ Q (.bl k) H) := by
  intro pins s σ H xs us Q I r h
  rcases h with ⟨i, rfl, q⟩ | ⟨k, rfl, q⟩
  · obtain ⟨u, rfl, t, rfl⟩ := vals1 r
    exact call_bool_int ⟨.bl (i != 0), H, I, rfl, q⟩
  · obtain ⟨u, rfl, r1⟩ := vals1 r
    cases r1
    exact call_bool_bool ⟨.bl k, H, I, rfl, q⟩
theorem call_str_int : CallR X (.type "str") (fun xs H Q => ∃ i, xs = [.int i] ∧ i.natAbs.log2 < 1920 ∧ Q (.str (toString i)) H) := by
  intro pins s σ H xs us Q I r h
  obtain ⟨i, rfl, hz, q⟩ := h
  obtain ⟨u, rfl, t, rfl⟩ := vals1 r
  exact PySem.P.str_of_int hz ⟨.str _, H, I.tok _, ⟨_, rfl⟩, q⟩
theorem call_ord : CallR X (.builtin "ord") (fun xs H Q => ∃ x, xs = [.str x] ∧ x.length = 1 ∧ Q (.int (x.cps.getD 0 0 : Nat)) H) := by
  intro pins s σ H xs us Q I r h
  obtain ⟨x, rfl, hz, q⟩ := h
  obtain ⟨u, rfl, t, rfl⟩ := vals1 r
  exact ord_of_one hz ⟨.int _, H, I.tok _, ⟨_, rfl⟩, q⟩
theorem call_chr : CallR X (.builtin "chr") (fun xs H Q => ∃ i, xs = [.int i] ∧ 0 ≤ i ∧ i ≤ 1114111 ∧ Q (.str ⟨#[i.toNat]⟩) H) := by
  intro pins s σ H xs us Q I r h
  obtain ⟨i, rfl, h0, h1, q⟩ := h
  obtain ⟨u, rfl, t, rfl⟩ := vals1 r
  exact chr_of_range h0 h1 ⟨.str _, H, I.tok _, ⟨_, rfl⟩, q⟩
/-- len of a str, a bytes, a list, a tuple -/
def LenV (K : PySem.W.Frag) (x : V) (H : Hp) (n : Nat) : Prop :=
  match x with
  | .str y => y.length ≤ sizeLine ∧ n = y.length
  | .byt y => y.size ≤ sizeLine ∧ n = y.size
  | .ref p => (∃ xs, SqL K H p xs ∧ n = xs.length) ∨ ∃ xs, SqT K H p xs ∧ n = xs.length
  | _ => False
theorem call_len : CallR X (.builtin "len") (fun xs H Q => ∃ x n, xs = [x] ∧ LenV X.K x H n ∧ Q (.int n) H) := by
  intro pins s σ H xs us Q I r h
  obtain ⟨x, n, rfl, e, q⟩ := h
  obtain ⟨u, rfl, rx⟩ := vals1 r
  have hl := line63
  have hs : sizeLine = 16777216 := sizeLine_eq
  cases x with
  | str y =>
    obtain ⟨t, rfl⟩ := rx
    obtain ⟨hy, e'⟩ : y.length ≤ sizeLine ∧ n = y.length := e
    subst e'
    exact len_str (by omega) ⟨.int _, H, I.tok _, ⟨_, rfl⟩, q⟩
  | byt y =>
    obtain ⟨t, rfl⟩ := rx
    obtain ⟨hy, e'⟩ : y.size ≤ sizeLine ∧ n = y.size := e
    subst e'
    exact PySem.W.len_bytes (by omega) ⟨.int _, H, I.tok _, ⟨_, rfl⟩, q⟩
  | ref p =>
    cases rx
    have e' : (∃ xs, SqL X.K H p xs ∧ n = xs.length) ∨ ∃ xs, SqT X.K H p xs ∧ n = xs.length := e
    rcases e' with ⟨xs, hx, e'⟩ | ⟨xs, hx, e'⟩
    · subst e'
      obtain ⟨its, r', pl, hz⟩ := I.list hx
      have hlen := r'.length
      exact Calls.call_len_list pl.isList (by simp only [List.size_toArray]; omega) ⟨.int xs.length, H, I.tok _, ⟨_, by simp only [List.size_toArray]; rw [hlen]⟩, q⟩
    · subst e'
      obtain ⟨its, r', pl, hz⟩ := I.tuple hx
      have hlen := r'.length
      exact len_tuple pl (by simp only [List.size_toArray]; omega) ⟨.int xs.length, H, I.tok _, ⟨_, by simp only [List.size_toArray]; rw [hlen]⟩, q⟩
  | _ => exact (show False from e).elim
/-- divmod: a new tuple -/
theorem call_divmod : CallR X (.builtin "divmod") (fun xs H Q => ∃ i j, xs = [.int i, .int j] ∧ CDiv i j ∧ ∀ p, H p = none → Q (.ref p) (upd H p (.tup [.int (i / j), .int (i % j)]))) := by
  intro pins s σ H xs us Q I r h
  obtain ⟨i, j, rfl, ⟨h1, h2⟩, q⟩ := h
  obtain ⟨u, w', rfl, ⟨t, rfl⟩, ⟨t', rfl⟩⟩ := vals2 r
  refine divmod_int (by omega) ?_ (.inl (PyProof.noPylong_small (by omega)))
  rw [Int.fdiv_eq_ediv_of_nonneg i (by omega), Int.fmod_eq_emod_of_nonneg i (by omega)]
  have hn : H s.heap.objs.size = none := I.hok.fresh (Nat.le_refl _)
  refine ⟨.ref s.heap.objs.size, _, ?_, rfl, q _ hn⟩
  refine I.laid (fun b o e => Heap.get?_push_of_some _ e) (Nat.le_refl _) ⟨by simp only [List.length_cons, List.length_nil]; rw [sizeLine_eq]; decide, [.int (i / j) s.toks, .int (i % j) (s.toks + 1)], .cons ⟨_, rfl⟩ (.cons ⟨_, rfl⟩ .nil), ?_⟩
  exact ⟨_, Heap.get?_push_size s.heap rfl, rfl, 0, rfl⟩
end
end L2

namespace L2
open PySem PySem.Spec PyProof.Rows

/-! ### an instance, its attributes a map -/
structure ObjM (h : Heap) (x dx C : Addr) (mA : Str → Option Value) : Prop where
  obj : h.get? x = some (PySem.W.instObj C dx)
  ns : h.Ns1 dx mA
  ne : dx ≠ x

theorem lookIn_ns {h : Heap} {dx : Addr} {mA : Str → Option Value} (n : h.Ns1 dx mA) : ∃ od, h.get? dx = some od ∧ ∀ name, PySem.W.lookIn name od = some (mA name) := by
  obtain ⟨o, es, ep, ho, hd, hk, _, hm⟩ := n
  refine ⟨o, ho, fun name => ?_⟩
  have e := hm name
  unfold nsFind findBy at e
  rw [← Array.find?_toList] at e
  unfold PySem.W.lookIn
  rw [hd]
  dsimp only
  split
  · rename_i y q
    rw [q] at e
    exact congrArg some e
  · rename_i q
    rw [q] at e
    have a : es.toList.any (·.refKey) = false := by
      rw [List.any_eq_false]
      intro y hy
      obtain ⟨z, t, hkey⟩ := hk y (Array.mem_toList_iff.mp hy)
      simp [DictEntry.refKey, hkey]
    have a' : ¬ es.toList.any (·.refKey) = true := by rw [a]; exact Bool.false_ne_true
    rw [if_neg a']
    exact congrArg some e

theorem ObjM.look {h : Heap} {x dx C : Addr} {mA : Str → Option Value} (I : ObjM h x dx C mA) : ∃ od, PySem.W.InstAt h x (PySem.W.instObj C dx) C (some od) ∧ ∀ name, PySem.W.lookIn name od = some (mA name) :=
  let ⟨od, ho, hl⟩ := lookIn_ns I.ns
  ⟨od, ⟨I.obj, rfl, rfl, ho⟩, hl⟩

section
variable {prog : Program} {w : World} {A : Around} {E : Value → Shared → Prop} {s : Shared} {K : PySem.W.Frag} {x dx C f : Addr} {mA : Str → Option Value} {name : Str} {v : Value}

theorem get_map {expr : Bool} {Q : Value → Shared → Prop} (X : K.In s.heap) (I : ObjM s.heap x dx C mA) (hg : PySem.W.plainGet K C name = true) (hh : PySem.W.hasDictIn K C = true)
    (ha : PySem.W.findIn K (.ref C) name = some none) (hv : mA name = some v) (hv' : PySem.W.handedIn v = true) (h : Q v { s with toks := s.toks + 1 }) :
    wpAny (model prog w) A (getAttr (.ref x) name expr) Q E s := by
  obtain ⟨od, J, hl⟩ := I.look
  exact PySem.W.get_value X J (PySem.W.plainGet_of hg).1 (PySem.W.findObj_own hh ha rfl (by rw [hl, hv])) hv' h

theorem get_const {expr : Bool} {a : Value} {Q : Value → Shared → Prop} (X : K.In s.heap) (I : ObjM s.heap x dx C mA) (hg : PySem.W.plainGet K C name = true) (hh : PySem.W.hasDictIn K C = true)
    (ha : PySem.W.findIn K (.ref C) name = some (some a)) (hn : PySem.W.specialIn K a "__get__" = some none) (hc : PySem.W.copiedNames.contains name = false) (hv : mA name = none) (hv' : PySem.W.handedIn a = true)
    (h : Q a { s with toks := s.toks + 1 }) : wpAny (model prog w) A (getAttr (.ref x) name expr) Q E s := by
  obtain ⟨od, J, hl⟩ := I.look
  exact PySem.W.get_value X J (PySem.W.plainGet_of hg).1 (PySem.W.findObj_cls hh ha hn hv' hc (by rw [hl, hv])) hv' h

theorem get_meth {pl : Sem Bool} {Q : Value × List Value → Shared → Prop} (X : K.In s.heap) (I : ObjM s.heap x dx C mA) (hg : PySem.W.plainGet K C name = true)
    (hf : PySem.W.findIn K (.ref C) name = some (some (.ref f))) (ht : PySem.W.isFn K (.ref f) = true) (hv : mA name = none) (h : Q (.ref f, [.ref x]) s) :
    wpAny (model prog w) A (getMethod (.ref x) name pl) Q E s := by
  obtain ⟨od, J, hl⟩ := I.look
  exact PySem.W.method_fn X J (PySem.W.plainGet_of hg).1 (PySem.W.plainGet_of hg).2 hf (beq_iff_eq.mp ht) (by show (PySem.W.lookIn name od).map (·.isSome) = some false; rw [hl, hv]; rfl) h

theorem set_map {ns : List Str} {Q : Unit → Shared → Prop} (X : K.In s.heap) (I : ObjM s.heap x dx C mA)
    (hs : PySem.W.findIn K (.ref C) "__setattr__" = some (some (.builtin "object.__setattr__"))) (hp : PySem.W.plainOver K C = true) (ht : PySem.W.takerIn K C name = some none) (hh : PySem.W.hasDictIn K C = true)
    (hw : PySem.Within mA ns) (hsz : ns.length ≤ sizeLine)
    (h : ∀ h', ObjM h' x dx C (fun y => if y = name then some v else mA y) → Heap.SameBut dx s.heap h' → Q () { s with heap := h', toks := s.toks + 2 }) :
    wpAny (model prog w) A (setAttr (.ref x) name v) Q E s := by
  obtain ⟨od, J, hl⟩ := I.look
  refine PySem.W.set_plain X J hs (PySem.W.osa_open (s := { s with toks := s.toks + 1 }) (r := none) X J hp ht fun b => ?_)
  obtain ⟨cd, hc, hd'⟩ := PySem.W.any_some hh
  have hx : s.heap.get? x = some ⟨.ref C, some dx, .plain, #[]⟩ := I.obj
  refine wpAny_bind (wpAny_pure (wpAny_bind (wpAny_bind (wpAny_loadPart hx (wpAny_bind (PySem.W.Looks.here (s := { s with toks := s.toks + 1 }) (PySem.W.looks_clsIn X hc) ?_))))))
  rw [hd']
  refine wpAny_pure (a := some dx) (wpAny_bind (wpAny_pure (wpAny_bind ?_)))
  refine wpAny_nsSet1 (s := { s with toks := s.toks + 1 }) I.ns fun h' hn2 hs2 => ?_
  obtain ⟨oD, esD, epD, hoD, hdD, hcD⟩ := hn2.count (PySem.Within.cons name v hw)
  refine wpAny_bind (wpAny_lookBehind hoD (by rw [hdD]; exact pastItsLine_dict (Nat.le_trans hcD (by rw [List.length_cons]; omega))) ?_)
  exact wpAny_pure (h _ ⟨(hs2.2 _ (Ne.symm I.ne)).trans I.obj, hn2, I.ne⟩ hs2)

/-- C(..): the dict at the heap's end, the instance behind it; then its __init__ -/
theorem make_map {R : Result → Shared → Prop} {vs : List Value} {kw : List (Str × Value)} (X : K.In s.heap) (hm : PySem.W.makesIn K C = true)
    (hi : PySem.W.findIn K (.ref C) "__init__" = some (some (.ref f))) (hf : PySem.W.typeIn K (.ref f) = some (.type "function"))
    (h : codeAny (model prog w) (A.under (.builtin "type.__call__" ⟨.ref C :: vs, kw⟩)) (.call (.ref f) ⟨.ref (s.heap.objs.size + 1) :: vs, kw⟩) (PySem.W.InitBack (s.heap.objs.size + 1) R)
      { s with heap := (s.heap.push PySem.W.emptyDict).push (PySem.W.instObj C s.heap.objs.size) }) :
    codeAny (model prog w) A (.call (.ref C) ⟨vs, kw⟩) R s := by
  obtain ⟨hh, g, d, t, os⟩ := s
  exact PySem.W.make_core (PySem.W.makes_of X hm) (PySem.W.looks_findIn X hi) (fun self => PySem.W.bind_fn X self hf) (.inl rfl) h
/-- C() where there is no __init__ but object's -/
theorem make_map0 {R : Result → Shared → Prop} (X : K.In s.heap) (hm : PySem.W.makesIn K C = true)
    (hi : PySem.W.findIn K (.ref C) "__init__" = some (some (.builtin "object.__init__")))
    (hb : ∀ self, PySem.W.Looks (model prog w) s.heap (bindSpecial (.builtin "object.__init__") self) (.builtin "object.__init__", [self]))
    (h : codeAny (model prog w) (A.under (.builtin "type.__call__" ⟨[.ref C], []⟩)) (.call (.builtin "object.__init__") ⟨[.ref (s.heap.objs.size + 1)], []⟩) (PySem.W.InitBack (s.heap.objs.size + 1) R)
      { s with heap := (s.heap.push PySem.W.emptyDict).push (PySem.W.instObj C s.heap.objs.size) }) :
    codeAny (model prog w) A (.call (.ref C) ⟨[], []⟩) R s := by
  obtain ⟨hh, g, d, t, os⟩ := s
  exact PySem.W.make_core (PySem.W.makes_of X hm) (PySem.W.looks_findIn X hi) hb (.inr ⟨rfl, rfl⟩) h
end

/-! ### the attributes as a list of pairs -/
def putF (f : Str) (v : V) : List (Str × V) → List (Str × V)
  | [] => [(f, v)]
  | (g, x) :: r => if g = f then (g, v) :: r else (g, x) :: putF f v r
theorem lookup_putF (f g : Str) (v : V) : ∀ fs : List (Str × V), (putF f v fs).lookup g = if g = f then some v else fs.lookup g
  | [] => by
    show List.lookup g [(f, v)] = _
    by_cases h : g = f
    · have hb : (g == f) = true := beq_iff_eq.mpr h
      simp only [List.lookup, hb, if_pos h]
    · have hb : (g == f) = false := beq_eq_false_iff_ne.mpr h
      simp only [List.lookup, hb, if_neg h]
  | (k, x) :: r => by
    have ih := lookup_putF f g v r
    rw [show putF f v ((k, x) :: r) = (if k = f then (k, v) :: r else (k, x) :: putF f v r) from rfl]
    by_cases hk : k = f
    · rw [if_pos hk]
      by_cases h : g = k
      · have hb : (g == k) = true := beq_iff_eq.mpr h
        simp only [List.lookup, hb, if_pos (h.trans hk)]
      · have hb : (g == k) = false := beq_eq_false_iff_ne.mpr h
        simp only [List.lookup, hb, if_neg (fun e : g = f => h (e.trans hk.symm))]
    · rw [if_neg hk]
      by_cases h : g = k
      · have hb : (g == k) = true := beq_iff_eq.mpr h
        simp only [List.lookup, hb, if_neg (fun e : g = f => hk (h.symm.trans e))]
      · have hb : (g == k) = false := beq_eq_false_iff_ne.mpr h
        simp only [List.lookup, hb]
        exact ih
theorem keys_putF (f : Str) (v : V) : ∀ fs : List (Str × V), f ∈ (putF f v fs).map (·.1) ∧ ∀ g, g ∈ fs.map (·.1) → g ∈ (putF f v fs).map (·.1)
  | [] => ⟨by simp [putF], fun g h => by simp at h⟩
  | (k, x) :: r => by
    obtain ⟨i1, i2⟩ := keys_putF f v r
    rw [show putF f v ((k, x) :: r) = (if k = f then (k, v) :: r else (k, x) :: putF f v r) from rfl]
    by_cases hk : k = f
    · rw [if_pos hk]
      subst hk
      exact ⟨by simp, fun g h => by simpa using h⟩
    · rw [if_neg hk]
      refine ⟨?_, fun g h => ?_⟩
      · rw [List.map_cons]
        exact List.mem_cons_of_mem _ i1
      · rw [List.map_cons] at h ⊢
        rcases List.mem_cons.mp h with e | e
        · exact List.mem_cons.mpr (.inl e)
        · exact List.mem_cons_of_mem _ (i2 g e)
theorem length_putF (f : Str) (v : V) : ∀ fs : List (Str × V), (putF f v fs).length ≤ fs.length + 1
  | [] => by simp [putF]
  | (k, x) :: r => by
    have ih := length_putF f v r
    rw [show putF f v ((k, x) :: r) = (if k = f then (k, v) :: r else (k, x) :: putF f v r) from rfl]
    by_cases hk : k = f
    · rw [if_pos hk, List.length_cons, List.length_cons]; omega
    · rw [if_neg hk, List.length_cons, List.length_cons]; omega

theorem RelO.some_of {v : V} {o : Option Value} (r : RelO (some v) o) : ∃ u, o = some u ∧ RelV v u := by
  cases o with
  | none => exact (show False from r).elim
  | some u => exact ⟨u, rfl, r⟩
theorem RelO.none_of {o : Option Value} (r : RelO none o) : o = none := by
  cases o with
  | none => rfl
  | some u => exact (show False from r).elim
theorem handed_of {v : V} {u : Value} (r : RelV v u) : PySem.W.handedIn u = true := by
  cases v with
  | non => cases (show u = Value.none from r); rfl
  | bl b => cases (show u = Value.bool b from r); rfl
  | int i => obtain ⟨t, e⟩ := (show ∃ t, u = Value.int i t from r); cases e; rfl
  | str x => obtain ⟨t, e⟩ := (show ∃ t, u = Value.str x t from r); cases e; rfl
  | byt b => obtain ⟨t, e⟩ := (show ∃ t, u = Value.bytes b t from r); cases e; rfl
  | flt b => obtain ⟨t, e⟩ := (show ∃ t, u = Value.float b t from r); cases e; rfl
  | ref a => cases (show u = Value.ref a from r); rfl
  | ty n => cases (show u = Value.type n from r); rfl

section
variable {P : Program} {w : World} {H H' : Hp} {h h' : Heap} {a C dx : Addr} {fs fs' : List (Str × V)}
theorem ins_get (hok : HOk P w H h) (e : H a = some (.ins C dx fs)) : ∃ mA, ObjM h a dx C mA ∧ (∀ f, RelO (fs.lookup f) (mA f)) ∧ PySem.Within mA (fs.map (·.1)) ∧ fs.length ≤ 1000 ∧ H dx = some (.own a) := by
  obtain ⟨d, z, ne, ob, mA, n, r, q⟩ := (show ObjOk P w H h a (.ins C dx fs) from hok a _ e)
  exact ⟨mA, ⟨ob, n, ne⟩, r, q, z, d⟩
end

/-! ### what of the text a class must have -/
structure Cls (K : PySem.W.Frag) (C : Addr) : Prop where
  pg : PySem.W.plainGet K C Str.empty = true
  hd : PySem.W.hasDictIn K C = true
  po : PySem.W.plainOver K C = true
  sa : PySem.W.findIn K (.ref C) "__setattr__" = some (some (.builtin "object.__setattr__"))
theorem Cls.get {K : PySem.W.Frag} {C : Addr} (c : Cls K C) (f : Str) : PySem.W.plainGet K C f = true := c.pg
/-- no class of it has the name -/
def NoAttr (K : PySem.W.Frag) (C : Addr) (f : Str) : Prop := PySem.W.findIn K (.ref C) f = some none
theorem NoAttr.taker {K : PySem.W.Frag} {C : Addr} {f : Str} (n : NoAttr K C f) : PySem.W.takerIn K C f = some none := by
  unfold PySem.W.takerIn
  rw [show PySem.W.findIn K (.ref C) f = some none from n]
  rfl
/-- a constant of the class -/
structure Con (K : PySem.W.Frag) (C : Addr) (f : Str) (v : V) (u : Value) : Prop where
  at_ : PySem.W.findIn K (.ref C) f = some (some u)
  rel : RelV v u
  get : PySem.W.specialIn K u "__get__" = some none
  cp : PySem.W.copiedNames.contains f = false
/-- a method: a plain def of the class or of one above it -/
structure Meth (K : PySem.W.Frag) (C : Addr) (m : Str) (f : Addr) : Prop where
  at_ : PySem.W.findIn K (.ref C) m = some (some (.ref f))
  fn : PySem.W.isFn K (.ref f) = true
  kp : PySem.W.keepIn K (.ref f) = true

section
variable {X : Cx} {pins : List (Addr × Obj)} {σ : St} {H : Hp} {s : Shared} {a C dx : Addr} {fs : List (Str × V)} {f : Str} {v : V} {A : Around} {E : Value → Shared → Prop}

theorem getattr_ok {b : Bool} {Q : Value → Shared → Prop} (I : Inv X pins σ H s) (e : H a = some (.ins C dx fs)) (c : Cls X.K C) (n : NoAttr X.K C f) (l : fs.lookup f = some v)
    (h : ∀ u s', Inv X pins σ H s' → RelV v u → Q u s') : wpAny (model X.prog X.w) A (getAttr (.ref a) f b) Q E s := by
  obtain ⟨mA, O, r, _, _, _⟩ := ins_get I.hok e
  obtain ⟨u, hu, ru⟩ := RelO.some_of (v := v) (o := mA f) (by rw [← l]; exact r f)
  exact get_map I.kIn O (c.get f) c.hd n hu (handed_of ru) (h u _ (I.tok _) ru)

theorem getcon_ok {b : Bool} {u : Value} {Q : Value → Shared → Prop} (I : Inv X pins σ H s) (e : H a = some (.ins C dx fs)) (c : Cls X.K C) (k : Con X.K C f v u) (l : fs.lookup f = none)
    (h : ∀ s', Inv X pins σ H s' → Q u s') : wpAny (model X.prog X.w) A (getAttr (.ref a) f b) Q E s := by
  obtain ⟨mA, O, r, _, _, _⟩ := ins_get I.hok e
  have hn : mA f = none := RelO.none_of (by rw [← l]; exact r f)
  exact get_const I.kIn O (c.get f) c.hd k.at_ k.get k.cp hn (handed_of k.rel) (h _ (I.tok _))

theorem getmeth_ok {m : Str} {g : Addr} {pl : Sem Bool} {Q : Value × List Value → Shared → Prop} (I : Inv X pins σ H s) (e : H a = some (.ins C dx fs)) (c : Cls X.K C) (k : Meth X.K C m g) (l : fs.lookup m = none)
    (h : Q (.ref g, [.ref a]) s) : wpAny (model X.prog X.w) A (getMethod (.ref a) m pl) Q E s := by
  obtain ⟨mA, O, r, _, _, _⟩ := ins_get I.hok e
  have hn : mA m = none := RelO.none_of (by rw [← l]; exact r m)
  exact get_meth I.kIn O (c.get m) k.at_ k.fn hn h

theorem setattr_ok {y : V} {u : Value} {Q : Unit → Shared → Prop} (I : Inv X pins σ H s) (e : H a = some (.ins C dx fs)) (c : Cls X.K C) (n : NoAttr X.K C f) (hl : fs.length < 1000) (ry : RelV y u)
    (h : ∀ s', Inv X pins σ (upd H a (.ins C dx (putF f y fs))) s' → Q () s') : wpAny (model X.prog X.w) A (setAttr (.ref a) f u) Q E s := by
  obtain ⟨mA, O, r, wi, _, ho⟩ := ins_get I.hok e
  have hz : (fs.map (·.1)).length ≤ sizeLine := by rw [List.length_map, sizeLine_eq]; omega
  refine set_map I.kIn O c.sa c.po n.taker c.hd wi hz fun h' O' sb => h _ ?_
  have hd : ∃ o, h'.get? dx = some o := let ⟨o, _, _, e', _⟩ := O'.ns; ⟨o, e'⟩
  refine I.write (x := a) (e := dx) (by rw [e]; exact True.intro) (.inr ho) (fun b q hb z => (sb.2 b hb).trans z) hd ?_
  refine ⟨by rw [upd_ne O.ne]; exact ho, ?_, O.ne, O'.obj, _, O'.ns, fun g => ?_, fun g hg => ?_⟩
  · have := length_putF f y fs; omega
  · show RelO ((putF f y fs).lookup g) (if g = f then some u else mA g)
    rw [lookup_putF]
    by_cases q : g = f
    · rw [if_pos q, if_pos q]; exact ry
    · rw [if_neg q, if_neg q]; exact r g
  · by_cases q : g = f
    · rw [q]; exact (keys_putF f y fs).1
    · refine (keys_putF f y fs).2 g (wi g fun z => hg ?_)
      show (if g = f then some u else mA g) = none
      rw [if_neg q]; exact z

/-- a new instance, tracked, without attributes -/
theorem Inv.made (I : Inv X pins σ H s) : Inv X pins σ (upd (upd H s.heap.objs.size (.own (s.heap.objs.size + 1))) (s.heap.objs.size + 1) (.ins C s.heap.objs.size []))
    { s with heap := (s.heap.push PySem.W.emptyDict).push (PySem.W.instObj C s.heap.objs.size) } := by
  have e1 : (s.heap.push PySem.W.emptyDict).get? s.heap.objs.size = some PySem.W.emptyDict := Heap.get?_push_size s.heap rfl
  have e2 : ((s.heap.push PySem.W.emptyDict).push (PySem.W.instObj C s.heap.objs.size)).get? (s.heap.objs.size + 1) = some (PySem.W.instObj C s.heap.objs.size) := by
    have := Heap.get?_push_size (s.heap.push PySem.W.emptyDict) (o := PySem.W.instObj C s.heap.objs.size) rfl
    rwa [Heap.size_push] at this
  have e3 : (s.heap.push PySem.W.emptyDict).Ns s.heap.objs.size (fun _ => none) := ⟨PySem.W.emptyDict, #[], _, e1, rfl, (fun e he => absurd he (by simp)), fun _ => rfl⟩
  have I1 := I.laid (a := s.heap.objs.size) (o := .own (s.heap.objs.size + 1)) (h' := s.heap.push PySem.W.emptyDict) (t' := s.toks) (fun b u q => Heap.get?_push_of_some _ q) (Nat.le_refl _) ⟨_, e1⟩
  refine I1.laid (a := s.heap.objs.size + 1) (o := .ins C s.heap.objs.size []) (t' := s.toks) (fun b u q => Heap.get?_push_of_some _ q) (Nat.le_of_eq (Heap.size_push _ _)) ?_
  have ne : s.heap.objs.size ≠ s.heap.objs.size + 1 := Nat.ne_of_lt (Nat.lt_succ_self _)
  refine ⟨by rw [upd_ne ne, upd_same], Nat.zero_le _, ne, e2, fun _ => none, (Heap.Ns1.of_empty e3).at fun o q => Heap.get?_push_of_some _ q, fun _ => True.intro, fun y hy => absurd rfl hy⟩

/-- e.f where nothing but the object is asked: through attributeBase (super) and the last hold -/
theorem attr_of {prog : Program} {w : World} {env : Env} {e : Expr} {f : Str} {pos : Pos} {s : Shared} {Q : Value → Shared → Prop} (hb : attributeBase e f env (eval e env) = eval e env)
    (h : wpAny (model prog w) A (eval e env) (fun o s₁ => wpAny (model prog w) A (getAttr o f true) Q E s₁) E s) : wpAny (model prog w) A (eval (.Attribute e f pos) env) Q E s :=
  Attribute_any_ h (by rw [arm_eval_Attribute, hb])
end

/-! ### readings and rules -/
/-- e.f, an attribute of the instance -/
def tFld (K : PySem.W.Frag) (ta : TE) (f : Str) : TE := fun σ H Q => ta σ H fun x H1 => ∃ a C dx fs v, x = .ref a ∧ H1 a = some (.ins C dx fs) ∧ Cls K C ∧ NoAttr K C f ∧ fs.lookup f = some v ∧ Q v H1
/-- e.f, a constant of the class -/
def tCon (K : PySem.W.Frag) (ta : TE) (f : Str) : TE := fun σ H Q => ta σ H fun x H1 => ∃ a C dx fs v u, x = .ref a ∧ H1 a = some (.ins C dx fs) ∧ Cls K C ∧ Con K C f v u ∧ fs.lookup f = none ∧ Q v H1
/-- e.f = value -/
def sFld (K : PySem.W.Frag) (ta tv : TE) (f : Str) : TS := fun D σ H => tv σ H fun y H1 => ta σ H1 fun x H2 => ∃ a C dx fs, x = .ref a ∧ H2 a = some (.ins C dx fs) ∧ Cls K C ∧ NoAttr K C f ∧ fs.length < 1000 ∧
  D.nx σ (upd H2 a (.ins C dx (putF f y fs)))
/-- an augmented operator on two values -/
def InOp (X : Cx) (op : Operator) (rd : V → V → Hp → VK → Prop) : Prop :=
  ∀ (pins : List (Addr × Obj)) (s : Shared) (σ : St) (H : Hp) (x y : V) (u v : Value) (Q : VK), Inv X pins σ H s → RelV x u → RelV y v → rd x y H Q → wpAny (model X.prog X.w) X.A (inplaceOp op u v) (EP X pins σ Q) X.xe s
/-- e.f op= value -/
def sFldAug (K : PySem.W.Frag) (ta tv : TE) (rd : V → V → Hp → VK → Prop) (f : Str) : TS := fun D σ H => ta σ H fun x H1 => ∃ a C dx fs v, x = .ref a ∧ H1 a = some (.ins C dx fs) ∧ Cls K C ∧ NoAttr K C f ∧ fs.lookup f = some v ∧
  tv σ H1 fun y H2 => rd v y H2 fun z H3 => ∃ dx' fs', H3 a = some (.ins C dx' fs') ∧ fs'.length < 1000 ∧ D.nx σ (upd H3 a (.ins C dx' (putF f z fs')))

section
variable {X : Cx} {o e value : Expr} {f : Str} {pos pos' tpos : Pos} {ta tv : TE}
theorem pe_fld (he : PE X e ta) (hb : attributeBase e f X.env (eval e X.env) = eval e X.env) : PE X (.Attribute e f pos) (tFld X.K ta f) := by
  intro pins s σ H Q I h
  refine attr_of hb (thn (he pins s σ H _ I h) fun u s1 ⟨x, H1, I1, rx, a, C, dx, fs, v, ex, ea, c, n, l, q⟩ => ?_)
  subst ex
  obtain rfl : u = Value.ref a := rx
  exact getattr_ok I1 ea c n l fun u' s2 I2 ru => ⟨v, H1, I2, ru, q⟩
theorem pe_con (he : PE X e ta) (hb : attributeBase e f X.env (eval e X.env) = eval e X.env) : PE X (.Attribute e f pos) (tCon X.K ta f) := by
  intro pins s σ H Q I h
  refine attr_of hb (thn (he pins s σ H _ I h) fun u s1 ⟨x, H1, I1, rx, a, C, dx, fs, v, u0, ex, ea, c, k, l, q⟩ => ?_)
  subst ex
  obtain rfl : u = Value.ref a := rx
  exact getcon_ok I1 ea c k l fun s2 I2 => ⟨v, H1, I2, k.rel, q⟩
theorem ps_fld (ha : PE X o ta) (hv : PE X value tv) (hs : swapsWith value (some (.Attribute o f pos')) pos.line X.env = pure false) : PS X (.Assign [.Attribute o f pos'] value pos) (sFld X.K ta tv f) := by
  intro pins s σ H D I h
  refine plainObj_wpAny_Assign_Attribute (thn (hv pins s σ H _ I h) fun u s1 ⟨y, H1, I1, ry, q⟩ => thn (ha pins s1 σ H1 _ I1 q) fun ov s2 ⟨x, H2, I2, rx, a, C, dx, fs, ex, ea, c, n, l, q2⟩ => ?_) hs
  subst ex
  obtain rfl : ov = Value.ref a := rx
  exact setattr_ok I2 ea c n l ry fun s3 I3 => ⟨σ, _, I3, q2⟩
theorem ps_fldaug {op : Operator} {rd : V → V → Hp → VK → Prop} (ha : PE X o ta) (hv : PE X value tv) (hop : InOp X op rd) : PS X (.AugAssign (.Attribute o f tpos) op value pos) (sFldAug X.K ta tv rd f) := by
  intro pins s σ H D I h
  refine wpAny_AugAssign_AttributeAny (thn (ha pins s σ H _ I h) fun ov s1 ⟨x, H1, I1, rx, a, C, dx, fs, v, ex, ea, c, n, l, q⟩ => ?_)
  subst ex
  obtain rfl : ov = Value.ref a := rx
  refine getattr_ok I1 ea c n l fun u s2 I2 ru => thn (hv pins s2 σ H1 _ I2 q) fun w3 s3 ⟨y, H2, I3, ry, q3⟩ => thn (hop pins s3 σ H2 v y u w3 _ I3 ru ry q3) fun w4 s4 ⟨z, H3, I4, rz, dx', fs', ea', l', q4⟩ => ?_
  exact setattr_ok I4 ea' c n l' rz fun s5 I5 => ⟨σ, _, I5, q4⟩
def rAdd : V → V → Hp → VK → Prop := fun x y H Q => ∃ i j, x = .int i ∧ y = .int j ∧ Q (.int (i + j)) H
def rSub : V → V → Hp → VK → Prop := fun x y H Q => ∃ i j, x = .int i ∧ y = .int j ∧ Q (.int (i - j)) H
theorem in_add : InOp X .Add rAdd := by
  rintro pins s σ H x y u v Q I rx ry ⟨i, j, rfl, rfl, q⟩
  obtain ⟨t, rfl⟩ := (show ∃ t, u = Value.int i t from rx)
  obtain ⟨t', rfl⟩ := (show ∃ t', v = Value.int j t' from ry)
  exact PyProof.Rows.iadd_int ⟨.int (i + j), H, I.tok _, ⟨_, rfl⟩, q⟩
theorem in_sub : InOp X .Sub rSub := by
  rintro pins s σ H x y u v Q I rx ry ⟨i, j, rfl, rfl, q⟩
  obtain ⟨t, rfl⟩ := (show ∃ t, u = Value.int i t from rx)
  obtain ⟨t', rfl⟩ := (show ∃ t', v = Value.int j t' from ry)
  exact PyProof.Rows.isub_int ⟨.int (i - j), H, I.tok _, ⟨_, rfl⟩, q⟩

/-- what is between an instance and its method: the tree of a method call -/
theorem methcall_of {pl : Sem Bool} {m : Str} {apos : Pos} {args : List Expr} {pins : List (Addr × Obj)} {s : Shared} {σ : St} {H : Hp} {Q : Value → Shared → Prop} {te : TE} (he : PE X e te) (I : Inv X pins σ H s)
    (h : te σ H fun x H1 => ∃ a C dx fs g, x = .ref a ∧ H1 a = some (.ins C dx fs) ∧ Cls X.K C ∧ Meth X.K C m g ∧ fs.lookup m = none ∧
      ∀ s1, Inv X pins σ H1 s1 → wpAny (model X.prog X.w) X.A (callWith pos (.ref g) [.ref a] (backTo pos (starEach args X.env)) (backToKw pos (keywordEach [] X.env))) Q X.xe s1)
    (ht : eval (.Call (.Attribute e m apos) args [] pos) X.env = (do
      let ov ← eval e X.env
      standAt apos.atName
      let (f, first) ← holding [ov] (getMethod ov m pl)
      callWith pos f first (backTo pos (starEach args X.env)) (backToKw pos (keywordEach [] X.env)))) :
    wpAny (model X.prog X.w) X.A (eval (.Call (.Attribute e m apos) args [] pos) X.env) Q X.xe s := by
  refine PySem.W.methodCall_KW (pl := pl) (thn (he pins s σ H _ I h) fun u s1 ⟨x, H1, I1, rx, a, C, dx, fs, g, ex, ea, c, k, l, q⟩ => ?_) ht
  subst ex
  obtain rfl : u = Value.ref a := rx
  exact getmeth_ok I1 ea c k l (q s1 I1)
end

/-! ### isinstance -/
section
variable {X : Cx} {pins : List (Addr × Obj)} {σ : St} {H : Hp} {s : Shared} {A : Around} {E : Value → Shared → Prop} {Q : Value → Shared → Prop} {c : Value} {b : Bool}
/-- the type of a value, as the fragment's deciders take it; for an instance its class -/
inductive TyOf (K : PySem.W.Frag) (H : Hp) : V → Value → Prop where
  | non : TyOf K H .non (.type "NoneType")
  | bl (x : Bool) : TyOf K H (.bl x) (.type "bool")
  | int (i : Int) : TyOf K H (.int i) (.type "int")
  | str (x : Str) : TyOf K H (.str x) (.type "str")
  | flt (x : UInt64) : TyOf K H (.flt x) (.type "float")
  | lst {a : Addr} {xs : List V} (e : H a = some (.lst xs)) : TyOf K H (.ref a) (.type "list")
  | frz {a : Addr} {o : Obj} {xs : List V} (e : H a = some (.frz o (.lst xs))) : TyOf K H (.ref a) (.type "list")
  | tup {a : Addr} {xs : List V} (e : H a = some (.tup xs)) : TyOf K H (.ref a) (.type "tuple")
  | dK {a : Addr} {kvs : List (Key × V)} (e : H a = some (.dK kvs)) : TyOf K H (.ref a) (.type "dict")
  | dT {a : Addr} {kvs : List (List Key × V)} (e : H a = some (.dT kvs)) : TyOf K H (.ref a) (.type "dict")
  | ins {a C dx : Addr} {fs : List (Str × V)} (e : H a = some (.ins C dx fs)) (cl : Cls K C) (ha : PySem.W.findIn K (.ref C) "__class__" = some (some (.builtin "object.__class__")))
      (hn : PySem.W.specialIn K (.builtin "object.__class__") "__get__" = some (some (.builtin "getset_descriptor.__get__"))) (htk : PySem.W.takesIn K (.builtin "object.__class__") = some true)
      (hm : PySem.W.mroIn K C (.type "object") = some true) : TyOf K H (.ref a) (.ref C)
/-- isinstance(x, c) for one class c, a built-in or an own one: kitOne's answer -/
theorem isinst_ok {x : V} {u t : Value} (I : Inv X pins σ H s) (rx : RelV x u) (ty : TyOf X.K H x t) (e : PySem.W.kitOne X.K t c = some b) (h : ∀ tk, Q (.bool b) { s with toks := tk }) :
    wpAny (model X.prog X.w) A (call (.builtin "isinstance") [u, c]) Q E s := by
  cases ty with
  | non => cases (show u = Value.none from rx); exact PySem.W.kia_one PySem.W.kitx_none I.kIn True.intro e (fun z => nomatch z) h
  | bl y => cases (show u = Value.bool y from rx); exact PySem.W.kia_one PySem.W.kitx_bool I.kIn True.intro e (fun z => nomatch z) h
  | int i => obtain ⟨t, q⟩ := (show ∃ t, u = Value.int i t from rx); cases q; exact PySem.W.kia_one PySem.W.kitx_int I.kIn True.intro e (fun z => nomatch z) h
  | str y => obtain ⟨t, q⟩ := (show ∃ t, u = Value.str y t from rx); cases q; exact PySem.W.kia_one PySem.W.kitx_str I.kIn True.intro e (fun z => nomatch z) h
  | flt y => obtain ⟨t, q⟩ := (show ∃ t, u = Value.float y t from rx); cases q; exact PySem.W.kia_one PySem.W.kitx_float I.kIn True.intro e (fun z => nomatch z) h
  | @lst a xs ea =>
    cases (show u = Value.ref a from rx)
    obtain ⟨_, _, n, _, h1⟩ := (show ObjOk X.prog X.w H s.heap a (.lst xs) from I.hok a _ ea)
    exact PySem.W.kia_one PySem.W.kitx_list I.kIn ⟨_, h1, rfl⟩ e (fun z => nomatch z) h
  | @frz a ob xs ea =>
    cases (show u = Value.ref a from rx)
    obtain ⟨_, _, _, n, _, h1⟩ := (show ObjOk X.prog X.w H s.heap a (.frz ob (.lst xs)) from I.hok a _ ea)
    exact PySem.W.kia_one PySem.W.kitx_list I.kIn ⟨_, h1, rfl⟩ e (fun z => nomatch z) h
  | @tup a xs ea =>
    cases (show u = Value.ref a from rx)
    obtain ⟨_, _, _, p⟩ := (show ObjOk X.prog X.w H s.heap a (.tup xs) from I.hok a _ ea)
    obtain ⟨o, h1, h2, _⟩ := p
    exact PySem.W.kia_one PySem.W.kitx_tuple I.kIn ⟨o, h1, h2⟩ e (fun z => nomatch z) h
  | @dK a kvs ea =>
    cases (show u = Value.ref a from rx)
    obtain ⟨_, _, vs, _, p⟩ := (show ObjOk X.prog X.w H s.heap a (.dK kvs) from I.hok a _ ea)
    obtain ⟨o, es, ep, h1, h2, _⟩ := p
    exact PySem.W.kia_one PySem.W.kitx_dict I.kIn ⟨o, h1, h2.1⟩ e (fun z => nomatch z) h
  | @dT a kvs ea =>
    cases (show u = Value.ref a from rx)
    obtain ⟨_, _, xs, _, o, es, ep, h1, h2, _⟩ := (show ObjOk X.prog X.w H s.heap a (.dT kvs) from I.hok a _ ea)
    exact PySem.W.kia_one PySem.W.kitx_dict I.kIn ⟨o, h1, h2.1⟩ e (fun z => nomatch z) h
  | @ins a C dx fs ea cl ha hn htk hm =>
    cases (show u = Value.ref a from rx)
    obtain ⟨mA, O, _⟩ := ins_get I.hok ea
    obtain ⟨od, J, _⟩ := O.look
    exact PySem.W.kia_one (PySem.W.kitx_own (cl.get _) cl.hd ha hn htk hm) I.kIn J e (fun z => nomatch z) h
end
end L2

namespace L2
open PySem PySem.Spec PyProof.Rows

/-! ### room -/
structure Room (k : Nat) (A : Around) : Prop where
  hd : A.handled = none
  dp : A.depth + 3 * k + 5 < recursionLimit
  un : A.units + 16 * k + 200 < cLine
theorem Room.mono {j k : Nat} {A : Around} (r : Room k A) (h : j ≤ k) : Room j A := ⟨r.hd, by have := r.dp; omega, by have := r.un; omega⟩
theorem Room.deeper {k : Nat} {A : Around} (r : Room (k + 1) A) (env : Env) : Room k (A.deeper env) :=
  ⟨r.hd, by have := r.dp; show A.depth + 1 + 3 * k + 5 < _; omega, by have := r.un; show A.units + 3 + 16 * k + 200 < _; omega⟩
theorem Room.in1 {k : Nat} {A : Around} (r : Room (k + 1) A) : Room k A.in1 :=
  ⟨r.hd, by have := r.dp; show A.depth + 3 * k + 5 < _; omega, by have := r.un; show A.units + 1 + 16 * k + 200 < _; omega⟩
theorem make_depth {A : Around} {C : Addr} {us : List Value} {kw : List (Str × Value)} : (A.under (.builtin "type.__call__" ⟨.ref C :: us, kw⟩)).depth = A.depth + 1 := by
  first | rfl | simp [Around.under, Code.weight, Code.isCreation, Code.isGuard, Code.isCaller, Code.frames, Code.isFrame, guardIds]
theorem make_units {A : Around} {C : Addr} {us : List Value} {kw : List (Str × Value)} : (A.under (.builtin "type.__call__" ⟨.ref C :: us, kw⟩)).units = A.units + 1 := by
  first | rfl | simp [Around.under, Code.cUnits, Code.frames, Code.isFrame]
theorem Room.make {k : Nat} {A : Around} (r : Room (k + 1) A) (C : Addr) (us : List Value) (kw : List (Str × Value)) : Room k (A.under (.builtin "type.__call__" ⟨.ref C :: us, kw⟩)) :=
  ⟨r.hd, by have := r.dp; rw [make_depth]; omega, by have := r.un; rw [make_units]; omega⟩
theorem Room.depth {k : Nat} {A : Around} (r : Room k A) : A.depth < recursionLimit := by have := r.dp; omega
theorem Room.units {k : Nat} {A : Around} (r : Room k A) : A.units + 64 < cLine := by have := r.un; omega
theorem Room.units0 {k : Nat} {A : Around} (r : Room k A) : A.units < cLine := by have := r.un; omega

/-! ### argument lists and displays -/
def tNil : TA := fun _ H Q => Q [] H
def tCons (ta : TE) (tr : TA) : TA := fun σ H Q => ta σ H fun x H1 => tr σ H1 fun xs H2 => Q (x :: xs) H2
section
variable {X : Cx} {e : Expr} {es : List Expr} {te : TE} {t : TA} {pos : Pos}
theorem pa_nil : PA X [] tNil := fun _ _ _ _ H Q I h => Calls.spliced_nil ⟨[], H, I, .nil, h⟩
theorem pa_cons (ha : PE X e te) (hr : PA X es t) (hs : starEach (e :: es) X.env = (false, eval e X.env) :: starEach es X.env := by rfl) : PA X (e :: es) (tCons te t) := by
  intro pos pins s σ H Q I h
  rw [hs]
  show wpAny _ _ (spliced ((false, eval e X.env) :: backTo pos (starEach es X.env))) _ _ s
  refine Calls.spliced_cons (thn (ha pins s σ H _ I h) fun u s1 ⟨x, H1, I1, r1, q1⟩ => ?_)
  exact thn (hr pos pins s1 σ H1 _ I1 q1) fun us s2 ⟨xs, H2, I2, r2, q2⟩ => ⟨x :: xs, H2, I2, .cons r1 r2, q2⟩

/-- a tuple, a list of written items -/
def tTup (t : TA) : TE := fun σ H Q => t σ H fun xs H1 => xs.length ≤ sizeLine ∧ ∀ p, H1 p = none → Q (.ref p) (upd H1 p (.tup xs))
def tLst (t : TA) : TE := fun σ H Q => t σ H fun xs H1 => xs.length ≤ sizeLine ∧ ∀ p, H1 p = none → Q (.ref p) (upd H1 p (.lst xs))
theorem pe_tup {x1} (h : PA X es t) : PE X (.Tuple es x1 pos) (tTup t) := by
  intro pins s σ H Q I hq
  refine wpAny_Tuple_spliced (thn (h pos pins s σ H _ I hq) fun us s1 ⟨xs, H1, I1, r, z, q⟩ => ⟨by rw [← r.length]; exact z, ?_⟩)
  have hf : H1 s1.heap.objs.size = none := I1.hok.fresh (Nat.le_refl _)
  refine ⟨.ref s1.heap.objs.size, upd H1 s1.heap.objs.size (.tup xs), I1.laid (t' := s1.toks) (fun b u e => Heap.get?_push_of_some _ e) (Nat.le_refl _) ?_, rfl, q _ hf⟩
  exact ⟨z, us, r, ⟨_, Heap.get?_push_size _ rfl, rfl, _, rfl⟩⟩
theorem pe_lst (h : PA X es t) : PE X (.List es pos) (tLst t) := by
  intro pins s σ H Q I hq
  refine wpAny_List_spliced (thn (h pos pins s σ H _ I hq) fun us s1 ⟨xs, H1, I1, r, z, q⟩ => ⟨by rw [← r.length]; exact z, ?_⟩)
  have hf : H1 s1.heap.objs.size = none := I1.hok.fresh (Nat.le_refl _)
  refine ⟨.ref s1.heap.objs.size, upd H1 s1.heap.objs.size (.lst xs), I1.laid (t' := s1.toks) (fun b u e => Heap.get?_push_of_some _ e) (Nat.le_refl _) ?_, rfl, q _ hf⟩
  exact ⟨z, us, 0, r, Heap.get?_push_size _ rfl⟩
end

/-! ### what a def promises -/
/-- a def's promise: the bound arguments in the parameters' order, the heap, the wanted end, the wanted exception -/
abbrev Sp := List V → Hp → VK → XK → Prop
/-- how an exception lies behind a call (file 08 gives it): the callers' frames, abstract heap and state ahead of the call, the wish, the exception, the state -/
abbrev CXT := List Env → Hp → Shared → XK → Value → Shared → Prop

/-- the state at a call -/
structure Env0 (P : Program) (w : World) (K : PySem.W.Frag) (mg : Str → Option Value) (base : Heap) (A : Around) (outer : List Env) (s : Shared) (H : Hp) : Prop where
  frames : A.frames = some outer
  mod : Mod K mg base
  bs : ∀ b o, base.get? b = some o → s.heap.get? b = some o ∧ H b = none
  bsz : base.objs.size ≤ s.heap.objs.size
  funs : s.heap.FunFrames base outer
  frf : ∀ b ∈ frs outer, H b = none
  hok : HOk P w H s.heap
  bare : AllBare s.gens
/-- a call's end -/
def CE (outer : List Env) (P : Program) (w : World) (H : Hp) (s : Shared) (Q : VK) (u : Value) (s' : Shared) : Prop :=
  ∃ v H', s'.os = s.os ∧ AllBare s'.gens ∧ Un (frs outer) [] H H' s.heap s'.heap ∧ HOk P w H' s'.heap ∧ RelV v u ∧ Q v H'
def CR (CX : CXT) (outer : List Env) (P : Program) (w : World) (H : Hp) (s : Shared) (Q : VK) (E : XK) (r : Result) (s' : Shared) : Prop :=
  match r with
  | .ok (.ret u) => CE outer P w H s Q u s'
  | .ok _ => False
  | .error e => CX outer H s E e s'
structure FnOk (P : Program) (w : World) (K : PySem.W.Frag) (mg : Str → Option Value) (base : Heap) (CX : CXT) (k : Nat) (f : Addr) (fd : FuncData) (ps : List Str) (sp : Sp) : Prop where
  len : ∀ vs H Q E, sp vs H Q E → vs.length = ps.length
  run : ∀ (A : Around) (outer : List Env) (s : Shared) (H : Hp) (args : Args) (us : List Value) (vs : List V) (Q : VK) (E : XK), Room k A → Env0 P w K mg base A outer s H → BindsTo s fd args (ps.zip us) → Vals vs us → sp vs H Q E →
    codeAny (model P w) A (.call (.ref f) args) (CR CX outer P w H s Q E) s
theorem FnOk.mono {P : Program} {w : World} {K : PySem.W.Frag} {mg : Str → Option Value} {base : Heap} {CX : CXT} {j k : Nat} {f : Addr} {fd : FuncData} {ps : List Str} {sp : Sp} (F : FnOk P w K mg base CX j f fd ps sp) (h : j ≤ k) :
    FnOk P w K mg base CX k f fd ps sp := ⟨F.len, fun A outer s H args us vs Q E hr => F.run A outer s H args us vs Q E (hr.mono h)⟩
/-- a weaker promise -/
theorem FnOk.imp {P : Program} {w : World} {K : PySem.W.Frag} {mg : Str → Option Value} {base : Heap} {CX : CXT} {k : Nat} {f : Addr} {fd : FuncData} {ps : List Str} {sp sp' : Sp} (F : FnOk P w K mg base CX k f fd ps sp)
    (h : ∀ vs H Q E, sp' vs H Q E → sp vs H Q E) : FnOk P w K mg base CX k f fd ps sp' :=
  ⟨fun vs H Q E q => F.len vs H Q E (h _ _ _ _ q), fun A outer s H args us vs Q E hr he hb hv hs => F.run A outer s H args us vs Q E hr he hb hv (h _ _ _ _ hs)⟩

theorem Env0.make {P : Program} {w : World} {K : PySem.W.Frag} {mg : Str → Option Value} {base : Heap} {A : Around} {outer : List Env} {s : Shared} {H : Hp} (e : Env0 P w K mg base A outer s H) (C : Addr) (us : List Value) (kw : List (Str × Value)) :
    Env0 P w K mg base (A.under (.builtin "type.__call__" ⟨.ref C :: us, kw⟩)) outer s H := ⟨by first | exact e.frames | (simpa [Around.under, Code.envs, Code.isFrame, pushEnvs] using e.frames), e.mod, e.bs, e.bsz, e.funs, e.frf, e.hok, e.bare⟩
theorem Env0.in1 {P : Program} {w : World} {K : PySem.W.Frag} {mg : Str → Option Value} {base : Heap} {A : Around} {outer : List Env} {s : Shared} {H : Hp} (e : Env0 P w K mg base A outer s H) :
    Env0 P w K mg base A.in1 outer s H := ⟨e.frames, e.mod, e.bs, e.bsz, e.funs, e.frf, e.hok, e.bare⟩

section
variable {X : Cx} {pins : List (Addr × Obj)} {σ : St} {H : Hp} {s s' : Shared}
/-- from a body: what a callee wants -/
theorem Inv.env0 (I : Inv X pins σ H s) : Env0 X.prog X.w X.K X.mg X.base X.A X.stack s H :=
  ⟨I.ok.frames, I.ok.mod, I.bs, Nat.le_trans I.ok.bsz I.sz, I.stack, I.stkFree, I.hok, I.bare⟩
/-- behind a call -/
theorem Inv.after {Q : VK} {u : Value} (I : Inv X pins σ H s) (h : CE X.stack X.prog X.w H s Q u s') : EP X pins σ Q u s' := by
  obtain ⟨v, H', os, bare, un, hok, r, q⟩ := h
  obtain ⟨hh, g, d, t, os'⟩ := s'
  obtain rfl : os' = s.os := os
  exact ⟨v, H', I.call (h' := hh) (g' := g) (d' := d) (t' := t) (ch := []) un hok bare (fun b z => absurd z (by simp)), r, q⟩
end

/-! ### calls -/
/-- f(..): the written arguments, then the defaults dvs; E: what is wanted of an exception -/
def tCall (sp : Sp) (dvs : List V) (E : XK) (t : TA) : TE := fun σ H Q => t σ H fun vs H1 => sp (vs ++ dvs) H1 Q E
/-- o.m(..) of an instance of the class at C -/
def tMeth (C : Addr) (m : Str) (sp : Sp) (dvs : List V) (E : XK) (ta : TE) (t : TA) : TE := fun σ H Q => ta σ H fun x H1 => ∃ a dx fs, x = .ref a ∧ H1 a = some (.ins C dx fs) ∧ fs.lookup m = none ∧
  t σ H1 fun vs H2 => sp (x :: (vs ++ dvs)) H2 Q E
/-- C(..): a new instance and its dict, then __init__ -/
def tMake (C : Addr) (sp : Sp) (dvs : List V) (E : XK) (t : TA) : TE := fun σ H Q => t σ H fun vs H1 => ∀ x dx, H1 x = none → H1 dx = none → dx ≠ x →
  sp (.ref x :: (vs ++ dvs)) (upd (upd H1 dx (.own x)) x (.ins C dx [])) (fun v H2 => v = .non ∧ Q (.ref x) H2) E

/-- how the parameters are bound: us the positional arguments, kw the keywords' values by name, ds the defaults that fill up -/
def Binds (K : PySem.W.Frag) (fd : FuncData) (ps : List Str) (ds : List Value) : Prop :=
  ∀ (s : Shared) (us : List Value), K.In s.heap → (us ++ ds).length = ps.length → BindsTo s fd ⟨us, []⟩ (ps.zip (us ++ ds))
/-- every parameter is given -/
theorem Binds.all {K : PySem.W.Frag} {fd : FuncData} {ps : List Str} (h : ∀ us : List Value, us.length = ps.length → bindArgs fd ⟨us, []⟩ = pure (ps.zip us)) : Binds K fd ps [] := fun s us _ hl => by
  rw [List.append_nil] at hl ⊢
  exact .of_eq (h us hl)

/-- an exception of a callee reaches what this body wants of exceptions -/
def Passes (CX : CXT) (X : Cx) (E : XK) : Prop := ∀ (pins : List (Addr × Obj)) (σ : St) (H : Hp) (s : Shared) (e : Value) (s' : Shared), Inv X pins σ H s → CX X.stack H s E e s' → X.xe e s'

section
variable {X : Cx} {CX : CXT} {k : Nat} {f C : Addr} {fd : FuncData} {ps : List Str} {sp : Sp} {dvs : List V} {ds : List Value} {E : XK} {x m : Str} {p pos apos : Pos} {e o : Expr} {es : List Expr} {ta : TE} {t : TA}

/-- the callee runs -/
theorem run_fn {pins : List (Addr × Obj)} {σ : St} {H : Hp} {s : Shared} {Q : VK} {us : List Value} {vs : List V} (F : FnOk X.prog X.w X.K X.mg X.base CX k f fd ps sp) (hr : Room k X.A) (hb : Binds X.K fd ps ds) (hd : Vals dvs ds) (hx : Passes CX X E)
    (I : Inv X pins σ H s) (r : Vals vs us) (h : sp (vs ++ dvs) H Q E) : wpAny (model X.prog X.w) X.A (call (.ref f) us) (EP X pins σ Q) X.xe s := by
  have r2 : Vals (vs ++ dvs) (us ++ ds) := r.append hd
  have hl : (us ++ ds).length = ps.length := by rw [← r2.length]; exact F.len _ _ _ _ h
  refine wpAny_call (codeAny_mono (F.run X.A X.stack s H ⟨us, []⟩ (us ++ ds) (vs ++ dvs) Q E hr I.env0 (hb s us I.kIn hl) r2 h) fun r s' hq => ?_)
  cases r with
  | error e => exact hx pins σ H s e s' I hq
  | ok fl =>
    cases fl with
    | ret u => exact I.after hq
    | next => exact False.elim hq
    | brk => exact False.elim hq
    | cont => exact False.elim hq

theorem pe_call (F : FnOk X.prog X.w X.K X.mg X.base CX k f fd ps sp) (hr : Room k X.A) (hg : Gl X x) (hm : X.mg x = some (.ref f)) (hk : PySem.W.keepIn X.K (.ref f) = true) (hb : Binds X.K fd ps ds) (hd : Vals dvs ds) (hx : Passes CX X E)
    (ha : PA X (e :: es) t) (hdb : (x == ("__debug__" : Str)) = false := by decide) (he : starEach (e :: es) X.env = (false, eval e X.env) :: starEach es X.env := by rfl) (hpl : (backTo pos (starEach es X.env)).any (·.1) = false := by rfl) :
    PE X (.Call (.Name x p) (e :: es) [] pos) (tCall sp dvs E t) := by
  intro pins s σ H Q I h
  refine wpAny_Call_Name_kw (ld_glob I hg hm ?_ hdb)
  refine PySem.W.callWith_K (h₀ := X.base) I.ok.mod.kin hk (thn (ha pos pins s σ H _ I h) fun us s1 ⟨vs, H1, I1, r, q⟩ => ⟨I1.kIn, ?_⟩) he hpl
  exact run_fn F hr hb hd hx I1 r q
theorem pe_call0 (F : FnOk X.prog X.w X.K X.mg X.base CX k f fd ps sp) (hr : Room k X.A) (hg : Gl X x) (hm : X.mg x = some (.ref f)) (hk : PySem.W.keepIn X.K (.ref f) = true) (hb : Binds X.K fd ps ds) (hd : Vals dvs ds) (hx : Passes CX X E)
    (hdb : (x == ("__debug__" : Str)) = false := by decide) : PE X (.Call (.Name x p) [] [] pos) (tCall sp dvs E tNil) := by
  intro pins s σ H Q I h
  refine wpAny_Call_Name_kw (ld_glob I hg hm ?_ hdb)
  exact PySem.W.callWith_K0 I.kIn hk (run_fn (us := []) F hr hb hd hx I .nil h)

/-- o.m(e, ..) -/
theorem pe_meth {pl : Sem Bool} (he : PE X o ta) (c : Cls X.K C) (hm : Meth X.K C m f) (F : FnOk X.prog X.w X.K X.mg X.base CX k f fd ps sp) (hr : Room k X.A) (hb : Binds X.K fd ps ds) (hd : Vals dvs ds) (hx : Passes CX X E) (ha : PA X (e :: es) t)
    (hst : starEach (e :: es) X.env = (false, eval e X.env) :: starEach es X.env := by rfl) (hpl : (backTo pos (starEach es X.env)).any (·.1) = false := by rfl)
    (ht : eval (.Call (.Attribute o m apos) (e :: es) [] pos) X.env = (do
      let ov ← eval o X.env
      standAt apos.atName
      let (f, first) ← holding [ov] (getMethod ov m pl)
      callWith pos f first (backTo pos (starEach (e :: es) X.env)) (backToKw pos (keywordEach [] X.env))) := by rfl) :
    PE X (.Call (.Attribute o m apos) (e :: es) [] pos) (tMeth C m sp dvs E ta t) := by
  intro pins s σ H Q I h
  refine PySem.W.methodCall_KW (pl := pl) (thn (he pins s σ H _ I h) fun u s1 ⟨x, H1, I1, rx, a, dx, fs, ex, ea, l, q⟩ => ?_) ht
  subst ex
  obtain rfl : u = Value.ref a := rx
  refine getmeth_ok I1 ea c hm l ?_
  refine PySem.W.callWith_K (first := [.ref a]) (h₀ := X.base) I.ok.mod.kin hm.kp (thn (ha pos pins s1 σ H1 _ I1 q) fun us s2 ⟨vs, H2, I2, r, q2⟩ => ⟨I2.kIn, ?_⟩) hst hpl
  exact run_fn (us := .ref a :: us) (vs := .ref a :: vs) F hr hb hd hx I2 (.cons rfl r) q2
/-- o.m() -/
theorem pe_meth0 {pl : Sem Bool} (he : PE X o ta) (c : Cls X.K C) (hm : Meth X.K C m f) (F : FnOk X.prog X.w X.K X.mg X.base CX k f fd ps sp) (hr : Room k X.A) (hb : Binds X.K fd ps ds) (hd : Vals dvs ds) (hx : Passes CX X E)
    (ht : eval (.Call (.Attribute o m apos) [] [] pos) X.env = (do
      let ov ← eval o X.env
      standAt apos.atName
      let (f, first) ← holding [ov] (getMethod ov m pl)
      callWith pos f first (backTo pos (starEach [] X.env)) (backToKw pos (keywordEach [] X.env))) := by rfl) :
    PE X (.Call (.Attribute o m apos) [] [] pos) (tMeth C m sp dvs E ta tNil) := by
  intro pins s σ H Q I h
  refine PySem.W.methodCall_KW (pl := pl) (thn (he pins s σ H _ I h) fun u s1 ⟨x, H1, I1, rx, a, dx, fs, ex, ea, l, q⟩ => ?_) ht
  subst ex
  obtain rfl : u = Value.ref a := rx
  refine getmeth_ok I1 ea c hm l ?_
  exact PySem.W.callWith_K0 (first := [.ref a]) I1.kIn hm.kp (run_fn (us := [.ref a]) (vs := [.ref a]) F hr hb hd hx I1 (.cons rfl .nil) q)

/-- what a class must have to be made -/
structure Mk (K : PySem.W.Frag) (C f : Addr) : Prop where
  makes : PySem.W.makesIn K C = true
  init : PySem.W.findIn K (.ref C) "__init__" = some (some (.ref f))
  fn : PySem.W.isFn K (.ref f) = true
  kp : PySem.W.keepIn K (.ref C) = true

theorem run_make {pins : List (Addr × Obj)} {σ : St} {H : Hp} {s : Shared} {Q : VK} {us : List Value} {vs : List V} (M : Mk X.K C f) (F : FnOk X.prog X.w X.K X.mg X.base CX k f fd ps sp) (hr : Room (k + 1) X.A) (hb : Binds X.K fd ps ds) (hd : Vals dvs ds)
    (hx : Passes CX X E) (I : Inv X pins σ H s) (r : Vals vs us)
    (h : ∀ x dx, H x = none → H dx = none → dx ≠ x → sp (.ref x :: (vs ++ dvs)) (upd (upd H dx (.own x)) x (.ins C dx [])) (fun v H2 => v = .non ∧ Q (.ref x) H2) E) :
    wpAny (model X.prog X.w) X.A (call (.ref C) us) (EP X pins σ Q) X.xe s := by
  have hq := h (s.heap.objs.size + 1) s.heap.objs.size (I.hok.fresh (Nat.le_succ _)) (I.hok.fresh (Nat.le_refl _)) (Nat.ne_of_lt (Nat.lt_succ_self _))
  have I2 := Inv.made (C := C) I
  have r2 : Vals (V.ref (s.heap.objs.size + 1) :: (vs ++ dvs)) (Value.ref (s.heap.objs.size + 1) :: (us ++ ds)) := .cons rfl (r.append hd)
  have hl : (Value.ref (s.heap.objs.size + 1) :: us ++ ds).length = ps.length := by
    have e := r2.length
    rw [F.len _ _ _ _ hq] at e
    exact e.symm
  refine wpAny_call (make_map (f := f) I.kIn M.makes M.init (beq_iff_eq.mp M.fn) (codeAny_mono (F.run _ X.stack _ _ ⟨Value.ref (s.heap.objs.size + 1) :: us, []⟩ (Value.ref (s.heap.objs.size + 1) :: (us ++ ds)) _ _ E (hr.make C us [])
    (I2.env0.make C us []) (hb _ (Value.ref (s.heap.objs.size + 1) :: us) I2.kIn hl) r2 hq) fun r s' hq' => ?_))
  cases r with
  | error e => exact hx pins σ _ _ e s' I2 hq'
  | ok fl =>
    cases fl with
    | ret u =>
      obtain ⟨v, H', I3, rv, ev, q3⟩ := I2.after hq'
      subst ev
      exact ⟨rv, ⟨V.ref (s.heap.objs.size + 1), H', I3, rfl, q3⟩⟩
    | next => exact False.elim hq'
    | brk => exact False.elim hq'
    | cont => exact False.elim hq'
theorem pe_make (M : Mk X.K C f) (F : FnOk X.prog X.w X.K X.mg X.base CX k f fd ps sp) (hr : Room (k + 1) X.A) (hg : Gl X x) (hm : X.mg x = some (.ref C)) (hb : Binds X.K fd ps ds) (hd : Vals dvs ds) (hx : Passes CX X E)
    (ha : PA X (e :: es) t) (hdb : (x == ("__debug__" : Str)) = false := by decide) (he : starEach (e :: es) X.env = (false, eval e X.env) :: starEach es X.env := by rfl) (hpl : (backTo pos (starEach es X.env)).any (·.1) = false := by rfl) :
    PE X (.Call (.Name x p) (e :: es) [] pos) (tMake C sp dvs E t) := by
  intro pins s σ H Q I h
  refine wpAny_Call_Name_kw (ld_glob I hg hm ?_ hdb)
  refine PySem.W.callWith_K (h₀ := X.base) I.ok.mod.kin M.kp (thn (ha pos pins s σ H _ I h) fun us s1 ⟨vs, H1, I1, r, q⟩ => ⟨I1.kIn, ?_⟩) he hpl
  exact run_make M F hr hb hd hx I1 r q
theorem pe_make0 (M : Mk X.K C f) (F : FnOk X.prog X.w X.K X.mg X.base CX k f fd ps sp) (hr : Room (k + 1) X.A) (hg : Gl X x) (hm : X.mg x = some (.ref C)) (hb : Binds X.K fd ps ds) (hd : Vals dvs ds) (hx : Passes CX X E)
    (hdb : (x == ("__debug__" : Str)) = false := by decide) : PE X (.Call (.Name x p) [] [] pos) (tMake C sp dvs E tNil) := by
  intro pins s σ H Q I h
  refine wpAny_Call_Name_kw (ld_glob I hg hm ?_ hdb)
  exact PySem.W.callWith_K0 I.kIn M.kp (run_make (us := []) M F hr hb hd hx I .nil h)
end

/-! ### keywords -/
/-- the values of the keywords, from the left -/
def PK (X : Cx) (kws : List Keyword) (t : TA) : Prop :=
  ∀ (pos : Pos) (pins : List (Addr × Obj)) (s : Shared) (σ : St) (H : Hp) (Q : List V → Hp → Prop), Inv X pins σ H s → t σ H Q → wpAny (model X.prog X.w) X.A (evalAll ((backToKw pos (keywordEach kws X.env)).map (·.2))) (AP X pins σ Q) X.xe s
section
variable {X : Cx} {CX : CXT} {k : Nat} {f C : Addr} {fd : FuncData} {ps ks : List Str} {sp : Sp} {E : XK} {x m : Str} {p pos apos kpos : Pos} {e o : Expr} {es : List Expr} {kws : List Keyword} {te ta : TE} {t tk : TA} {nm : Option Str}
theorem pk_nil : PK X [] tNil := fun _ _ _ _ H Q I h => wpAny_evalAll_nil ⟨[], H, I, .nil, h⟩
theorem pk_cons (ha : PE X e te) (hr : PK X kws t) : PK X (⟨nm, e, kpos⟩ :: kws) (tCons te t) := by
  intro pos pins s σ H Q I h
  show wpAny _ _ (evalAll ((do let v ← eval e X.env; standAt pos; pure v) :: (backToKw pos (keywordEach kws X.env)).map (·.2))) _ _ s
  refine wpAny_evalAll_cons (wpAny_bind (thn (ha pins s σ H _ I h) fun u s1 ⟨x, H1, I1, r1, q1⟩ => wpAny_bind (wpAny_standAt (wpAny_pure ?_))))
  exact thn (hr pos pins s1 σ H1 _ I1 q1) fun us s2 ⟨xs, H2, I2, r2, q2⟩ => ⟨x :: xs, H2, I2, .cons r1 r2, q2⟩

/-- how a call with keywords binds: g puts the positional values us and the keywords' values ws (names ks) in the parameters' order, defaults among them -/
structure KBinds (K : PySem.W.Frag) (fd : FuncData) (ps ks : List Str) (g : List Value → List Value → List Value) (gV : List V → List V → List V) : Prop where
  to : ∀ (s : Shared) (us ws : List Value), K.In s.heap → (g us ws).length = ps.length → BindsTo s fd ⟨us, ks.zip ws⟩ (ps.zip (g us ws))
  rel : ∀ {vs : List V} {us : List Value} {zs : List V} {ws : List Value}, Vals vs us → Vals zs ws → Vals (gV vs zs) (g us ws)
def tCallK (sp : Sp) (gV : List V → List V → List V) (E : XK) (t tk : TA) : TE := fun σ H Q => t σ H fun vs H1 => tk σ H1 fun zs H2 => sp (gV vs zs) H2 Q E
variable {g : List Value → List Value → List Value} {gV : List V → List V → List V}
theorem run_fnk {pins : List (Addr × Obj)} {σ : St} {H : Hp} {s : Shared} {Q : VK} {us ws : List Value} {vs zs : List V} (F : FnOk X.prog X.w X.K X.mg X.base CX k f fd ps sp) (hr : Room k X.A) (hb : KBinds X.K fd ps ks g gV) (hx : Passes CX X E)
    (I : Inv X pins σ H s) (r : Vals vs us) (rz : Vals zs ws) (h : sp (gV vs zs) H Q E) : wpAny (model X.prog X.w) X.A (call (.ref f) us (ks.zip ws)) (EP X pins σ Q) X.xe s := by
  have r2 := hb.rel r rz
  have hl : (g us ws).length = ps.length := by rw [← r2.length]; exact F.len _ _ _ _ h
  refine wpAny_call (codeAny_mono (F.run X.A X.stack s H ⟨us, ks.zip ws⟩ (g us ws) (gV vs zs) Q E hr I.env0 (hb.to s us ws I.kIn hl) r2 h) fun r s' hq => ?_)
  cases r with
  | error e => exact hx pins σ H s e s' I hq
  | ok fl =>
    cases fl with
    | ret u => exact I.after hq
    | next => exact False.elim hq
    | brk => exact False.elim hq
    | cont => exact False.elim hq
/-- f(e, .., k = v, ..) -/
theorem pe_callK (F : FnOk X.prog X.w X.K X.mg X.base CX k f fd ps sp) (hr : Room k X.A) (hg : Gl X x) (hm : X.mg x = some (.ref f)) (hk : PySem.W.keepIn X.K (.ref f) = true) (hb : KBinds X.K fd ps ks g gV) (hx : Passes CX X E)
    (ha : PA X (e :: es) t) (hkw : PK X kws tk) (hall : (backToKw pos (keywordEach kws X.env)).all (·.1.isSome) = true := by rfl) (hks : (backToKw pos (keywordEach kws X.env)).filterMap (·.1) = ks := by rfl)
    (hdb : (x == ("__debug__" : Str)) = false := by decide) (he : starEach (e :: es) X.env = (false, eval e X.env) :: starEach es X.env := by rfl)
    (hpl : ((backTo pos (starEach (e :: es) X.env)).any (·.1) || (backToKw pos (keywordEach kws X.env)).any (·.1.isNone)) = false := by rfl) :
    PE X (.Call (.Name x p) (e :: es) kws pos) (tCallK sp gV E t tk) := by
  intro pins s σ H Q I h
  refine wpAny_Call_Name_kw (ld_glob I hg hm ?_ hdb)
  refine PySem.W.callWith_KW (h₀ := X.base) I.ok.mod.kin hk hall (thn (ha pos pins s σ H _ I h) fun us s1 ⟨vs, H1, I1, r, q⟩ => ?_) hpl he
  refine thn (hkw pos pins s1 σ H1 _ I1 q) fun ws s2 ⟨zs, H2, I2, rz, q2⟩ => ⟨I2.kIn, ?_⟩
  rw [hks]
  exact run_fnk F hr hb hx I2 r rz q2
end

/-! ### a def's body keeps its promise -/
/-- names: the parameters first -/
structure FnScope (N P : List Str) (sc : Scope) : Prop where
  kind : sc.kind = .function
  co : sc.isCoroutine = false
  gen : sc.isGenerator = false
  nd : N.Nodup
  pre : N.take P.length = P
  par : ∀ x ∈ P, sc.names.lookup x = some .local ∨ sc.names.lookup x = some .cell
  nofree : ∀ y ∈ sc.names, y.2 ≠ .free

theorem bindL_out {kindOf : Str → Option NameKind} {x : Str} : ∀ {binds : List (Str × Value)} {m : Str → Option Value}, (∀ v, (x, v) ∉ binds) → bindL kindOf binds m x = m x
  | [], _, _ => rfl
  | (n, v) :: r, m, h => by
    unfold bindL
    rw [bindL_out fun w hw => h w (List.mem_cons_of_mem _ hw)]
    split
    · have : x ≠ n := by rintro rfl; exact h v List.mem_cons_self
      simp [this]
    · rfl
theorem bindC_out {kindOf : Str → Option NameKind} {x : Str} : ∀ {binds : List (Str × Value)} {m : Str → Option Value}, (∀ v, (x, v) ∉ binds) → bindC kindOf binds m x = m x
  | [], _, _ => rfl
  | (n, v) :: r, m, h => by
    unfold bindC
    rw [bindC_out fun w hw => h w (List.mem_cons_of_mem _ hw)]
    split
    · rfl
    · have : x ≠ n := by rintro rfl; exact h v List.mem_cons_self
      simp [this]
theorem bindL_get {kindOf : Str → Option NameKind} {x : Str} {v : Value} : ∀ {P : List Str} {vs : List Value} {i : Nat} {m : Str → Option Value}, P.Nodup → P[i]? = some x → vs[i]? = some v → kindOf x = some .local →
    bindL kindOf (P.zip vs) m x = some v
  | [], _, _, _, _, h, _, _ => by simp at h
  | _ :: _, [], _, _, _, _, h, _ => by simp at h
  | p :: P, w :: vs, 0, m, nd, h1, h2, hk => by
    simp at h1 h2; subst h1; subst h2
    show bindL kindOf ((p, w) :: P.zip vs) m p = _
    unfold bindL
    rw [bindL_out fun v hv => (List.nodup_cons.mp nd).1 (List.of_mem_zip hv).1, if_pos hk]
    simp
  | p :: P, w :: vs, i + 1, m, nd, h1, h2, hk => by
    show bindL kindOf ((p, w) :: P.zip vs) m x = _
    unfold bindL
    exact bindL_get (i := i) (List.nodup_cons.mp nd).2 (by simpa using h1) (by simpa using h2) hk
theorem bindC_get {kindOf : Str → Option NameKind} {x : Str} {v : Value} : ∀ {P : List Str} {vs : List Value} {i : Nat} {m : Str → Option Value}, P.Nodup → P[i]? = some x → vs[i]? = some v → kindOf x ≠ some .local →
    bindC kindOf (P.zip vs) m x = some v
  | [], _, _, _, _, h, _, _ => by simp at h
  | _ :: _, [], _, _, _, _, h, _ => by simp at h
  | p :: P, w :: vs, 0, m, nd, h1, h2, hk => by
    simp at h1 h2; subst h1; subst h2
    show bindC kindOf ((p, w) :: P.zip vs) m p = _
    unfold bindC
    rw [bindC_out fun v hv => (List.nodup_cons.mp nd).1 (List.of_mem_zip hv).1, if_neg hk]
    simp
  | p :: P, w :: vs, i + 1, m, nd, h1, h2, hk => by
    show bindC kindOf ((p, w) :: P.zip vs) m x = _
    unfold bindC
    exact bindC_get (i := i) (List.nodup_cons.mp nd).2 (by simpa using h1) (by simpa using h2) hk

/-- the names' values at the entry -/
def start (N : List Str) (vs : List V) : St := vs.map some ++ List.replicate (N.length - vs.length) none

/-- the context of a def's body, at its entry; an exception leaves the frame, then lies as CX says -/
def cxOf (CX : CXT) (P : Program) (w : World) (K : PySem.W.Frag) (mg : Str → Option Value) (base : Heap) (N : List Str) (qual : Str) (scope : Scope) (f : Addr) (cd : Value) (A : Around) (outer : List Env) (s : Shared) (H : Hp) (E : XK) : Cx where
  prog := P
  w := w
  K := K
  mg := mg
  base := base
  A := A.deeper (envOfC qual scope s.heap.objs.size f cd)
  N := N
  s₀ := s
  H₀ := H
  env := envOfC qual scope s.heap.objs.size f cd
  outer := outer
  stack := envOfC qual scope s.heap.objs.size f cd :: outer
  ex := []
  calm := true
  fn := fun _ => true
  pn := []
  xe := fun e s' => wpAny (model P w) (A.deeper (envOfC qual scope s.heap.objs.size f cd)) (leaving (envOfC qual scope s.heap.objs.size f cd) e) (fun _ s'' => CX outer H s E e s'') (fun e' s'' => CX outer H s E e' s'') s'

theorem cell_has {sc : Scope} {n : Nat} {x : Str} (h : sc.names.lookup x = some .cell) : ∃ c, (cellsFrom n sc.names []).lookup x = some c := by
  have q := PySem.W.cellsFrom_some sc.names n [] (.inl h)
  exact Option.isSome_iff_exists.mp q

theorem inv_start {CX : CXT} {P : Program} {w : World} {K : PySem.W.Frag} {mg : Str → Option Value} {base : Heap} {N ps : List Str} {qual : Str} {scope : Scope} {f : Addr} {cd : Value} {A : Around} {outer : List Env} {s s1 : Shared} {H : Hp} {E : XK} {us : List Value} {vs : List V}
    (S : FnScope N ps scope) (hd : A.handled = none) (e0 : Env0 P w K mg base A outer s H) (hl : vs.length = ps.length) (r : Vals vs us)
    (x : InCallC s s.heap.objs.size (bindL (envOfC qual scope s.heap.objs.size f cd).kindOf (ps.zip us) fun _ => none) (cellsFrom (s.heap.objs.size + 1) scope.names []) (bindC (envOfC qual scope s.heap.objs.size f cd).kindOf (ps.zip us) fun _ => none) s1) :
    Inv (cxOf CX P w K mg base N qual scope f cd A outer s H E) [] (start N vs) H s1 := by
  have hpl : ps.length ≤ N.length := by have := congrArg List.length S.pre; rw [List.length_take] at this; omega
  obtain ⟨h1, tk, rfl, hk⟩ := x.done
  have noA : ∀ b : Addr, b ∉ (cxOf CX P w K mg base N qual scope f cd A outer s H E).ex := fun b z => absurd (show b ∈ ([] : List Addr) from z) (by simp)
  refine ⟨⟨e0.mod, S.kind, rfl, rfl, Nat.le_refl _, fun y z c h1 h2 => ?_, fun y hy => ?_, fun y c _ h => ?_, fun _ => hd, Around.frames_deeper e0.frames, .inr ⟨rfl, rfl⟩, fun b z => absurd z (noA b), e0.bs, e0.bsz, fun b _ _ => noA b, fun b z => absurd z (noA b), e0.funs, e0.frf⟩,
    rfl, e0.bare, Un.kept hk, ⟨_, x.toInCall.ns, fun i y v h1 h2 h3 => ?_⟩, fun y c h => ⟨_, x.cell y c h⟩, e0.hok.fresh (Nat.le_refl _), fun y c h => ?_, fun p hp => absurd (show p ∈ ([] : List (Addr × Obj)) from hp) (by simp), e0.hok.kept hk, ?_⟩
  · exact name_of_addr x.apart (PySem.mem_of_lookup h1) (PySem.mem_of_lookup h2)
  · have hy : scope.names.lookup y = some .cell ∨ scope.names.lookup y = some .free := hy
    rcases hy with hy | hy
    · exact cell_has hy
    · exact absurd rfl (S.nofree _ (PySem.mem_of_lookup hy))
  · exact Nat.le_of_lt (x.above y c (PySem.mem_of_lookup h))
  · have hi : i < vs.length := by
      unfold start at h2
      by_cases hi : i < vs.length
      · exact hi
      · rw [List.getElem?_append_right (by simpa using hi)] at h2
        rw [List.getElem?_replicate] at h2
        split at h2 <;> cases h2
    have ha : vs[i]? = some v := by
      unfold start at h2
      rw [List.getElem?_append_left (by simpa using hi), List.getElem?_map] at h2
      cases e : vs[i]? with
      | none => rw [e] at h2; cases h2
      | some a => rw [e] at h2; cases h2; rfl
    obtain ⟨u, hu, rv⟩ := r.get ha
    have hp : ps[i]? = some y := by
      rw [← S.pre, List.getElem?_take_of_lt (by omega)]; exact h1
    have ndP : ps.Nodup := by rw [← S.pre]; exact S.nd.sublist (List.take_sublist _ _)
    refine ⟨u, rv, ?_⟩
    rcases S.par y (List.mem_of_getElem? hp) with k | k
    · exact .inl ⟨k, bindL_get ndP hp hu k⟩
    · obtain ⟨c, e⟩ := cell_has (n := s.heap.objs.size + 1) k
      refine .inr ⟨.inl k, c, e, ?_⟩
      have q := x.cell y c e
      rw [bindC_get ndP hp hu (by show scope.names.lookup y ≠ _; rw [k]; decide)] at q
      exact q
  · exact e0.hok.fresh (Nat.le_of_lt (x.above y c (PySem.mem_of_lookup h)))
  · unfold start
    show _ = N.length
    rw [List.length_append, List.length_map, List.length_replicate]
    omega

/-- THE RULE: a def (or a method) of the text, by its body. The body's reading t is chosen for each entry; it is run at the parameters' values -/
theorem fn_of {CX : CXT} {P : Program} {w : World} {K : PySem.W.Frag} {mg : Str → Option Value} {base : Heap} {k : Nat} {f : Addr} {name qual : Str} {params : Arguments} {body : List Stmt} {scope : Scope} {dV kV doc pm cdv ct oc : Value} {an od : Option Addr}
    {osl : Array (Option Value)} {N ps : List Str} {sp : Sp} (lk : K.lookup f = some ⟨oc, od, .func (PySem.W.fnOf name qual params body scope dV kV doc pm an cdv ct), osl⟩) (hcd : PySem.W.codeIn K cdv qual = true) (S : FnScope N ps scope)
    (len : ∀ vs H Q E, sp vs H Q E → vs.length = ps.length)
    (hbody : ∀ (A : Around) (outer : List Env) (s : Shared) (H : Hp) (vs : List V) (Q : VK) (E : XK), Room k (A.deeper (envOfC qual scope s.heap.objs.size f cdv)) → sp vs H Q E →
      ∃ t, PSs (cxOf CX P w K mg base N qual scope f cdv A outer s H E) body t ∧ t { nx := fun _ H' => Q .non H', rt := Q } (start N vs) H) :
    FnOk P w K mg base CX (k + 1) f (PySem.W.fnOf name qual params body scope dV kV doc pm an cdv ct) ps sp := by
  refine ⟨len, fun A outer s H args us vs Q E hr e0 hb r hsp => ?_⟩
  have hl := len _ _ _ _ hsp
  have KX : K.In s.heap := e0.mod.kin.keeps fun b o e => (e0.bs b o e).1
  have lim : s.heap.NoLimit := e0.mod.nolimit.keeps fun b o e => (e0.bs b o e).1
  have hkind : ∀ y ∈ ps.zip us, scope.names.lookup y.1 = some .local ∨ (scope.names.lookup y.1 = some .cell ∧ ((cellsFrom (s.heap.objs.size + 1) scope.names []).lookup y.1).isSome = true) := fun ⟨n, v⟩ hy => by
    rcases S.par n (List.of_mem_zip hy).1 with q | q
    · exact .inl q
    · exact .inr ⟨q, PySem.W.cellsFrom_some _ _ _ (.inl q)⟩
  refine codeAny_call_function hr.depth (KX _ _ lk) rfl S.co S.gen rfl (PySem.W.codeRec_of KX hcd) (hb _ _ _ _ ?_)
  refine wpAny_newFunctionEnv_cells S.kind hkind fun env he s1 x => ?_
  subst he
  refine ⟨lim.keeps x.toInCall.keep, codeAny_func ?_⟩
  obtain ⟨t, ht, hq⟩ := hbody A outer s H vs Q E (hr.deeper _) hsp
  have I : Inv (cxOf CX P w K mg base N qual scope f cdv A outer s H E) [] (start N vs) H s1 := inv_start S hr.hd e0 hl r x
  refine wpAny_mono (ht [] s1 (start N vs) H _ I hq) (fun fl s' hs => ?_) fun e s' hs => hs
  have fin : ∀ {σ' : St} {H' : Hp} {v : V} {u : Value}, Inv (cxOf CX P w K mg base N qual scope f cdv A outer s H E) [] σ' H' s' → RelV v u → Q v H' → CE outer P w H s Q u s' :=
    fun {σ' H' v u} J rv q => ⟨v, H', J.os, J.bare, J.base, J.hok, rv, q⟩
  cases fl with
  | ret u =>
    obtain ⟨v, σ', H', J, rv, q⟩ := hs
    exact fin J rv q
  | next =>
    obtain ⟨σ', H', J, q⟩ := hs
    exact fin (v := V.non) (u := Value.none) J rfl q
  | brk =>
    obtain ⟨_, _, _, q⟩ := hs
    exact False.elim q
  | cont =>
    obtain ⟨_, _, _, q⟩ := hs
    exact False.elim q
end L2

namespace L2
open PySem PySem.Spec PyProof.Rows
section
variable {X : Cx} {x : Str} {p pos : Pos} {e : Expr} {es : List Expr} {t : TA} {id T : String} {r : List V → Hp → VK → Prop}

def tCB (r : List V → Hp → VK → Prop) (t : TA) : TE := fun σ H Q => t σ H fun vs H1 => r vs H1 Q
/-- f(e, ..), f a built-in function -/
theorem pe_callB (hc : CallR X (.builtin id) r) (hg : Gl X x) (hm : X.mg x = none) (hv : bootBuiltins x = some (.builtin id)) (ha : PA X (e :: es) t) (hn : x ≠ "__name__" := by decide) (hdb : (x == ("__debug__" : Str)) = false := by decide)
    (he : starEach (e :: es) X.env = (false, eval e X.env) :: starEach es X.env := by rfl) (hpl : (backTo pos (starEach es X.env)).any (·.1) = false := by rfl) : PE X (.Call (.Name x p) (e :: es) [] pos) (tCB r t) := by
  intro pins s σ H Q I h
  refine wpAny_Call_Name_kw (ld_blt I hg hm hv ?_ hn hdb)
  exact PyProof.Rows.callWith_builtin1 (thn (ha pos pins s σ H _ I h) fun us s1 ⟨vs, H1, I1, r1, q1⟩ => hc pins s1 σ H1 vs us Q I1 r1 q1) he hpl
/-- T(e, ..), T a built-in type -/
theorem pe_callTy (hc : CallR X (.type T) r) (hg : Gl X x) (hm : X.mg x = none) (hv : bootBuiltins x = some (.type T)) (ha : PA X (e :: es) t) (hn : x ≠ "__name__" := by decide) (hdb : (x == ("__debug__" : Str)) = false := by decide)
    (he : starEach (e :: es) X.env = (false, eval e X.env) :: starEach es X.env := by rfl) (hpl : (backTo pos (starEach es X.env)).any (·.1) = false := by rfl) : PE X (.Call (.Name x p) (e :: es) [] pos) (tCB r t) := by
  intro pins s σ H Q I h
  refine wpAny_Call_Name_kw (ld_blt I hg hm hv ?_ hn hdb)
  exact PyProof.Rows.callWith_type1 (thn (ha pos pins s σ H _ I h) fun us s1 ⟨vs, H1, I1, r1, q1⟩ => hc pins s1 σ H1 vs us Q I1 r1 q1) he hpl
/-- T() -/
theorem pe_callTy0 (hc : CallR X (.type T) r) (hg : Gl X x) (hm : X.mg x = none) (hv : bootBuiltins x = some (.type T)) (hn : x ≠ "__name__" := by decide) (hdb : (x == ("__debug__" : Str)) = false := by decide) :
    PE X (.Call (.Name x p) [] [] pos) (tCB r tNil) := by
  intro pins s σ H Q I h
  refine wpAny_Call_Name_kw (ld_blt I hg hm hv ?_ hn hdb)
  exact PyProof.Rows.callWith_type0 (hc pins s σ H [] [] Q I .nil h)
end
end L2

namespace HT
open PySem PyProof.Rows

/-- t < u of tuples of ints -/
def lexLt : List Int → List Int → Bool
  | [], [] => false
  | [], _ :: _ => true
  | _ :: _, [] => false
  | x :: xs, y :: ys => if x = y then lexLt xs ys else decide (x < y)
theorem lexLt_cons (x y : Int) (xs ys : List Int) : lexLt (x :: xs) (y :: ys) = if x = y then lexLt xs ys else decide (x < y) := rfl
theorem lexLt_nil_nil : lexLt [] [] = false := rfl
theorem lexLt_nil_cons (y : Int) (ys : List Int) : lexLt [] (y :: ys) = true := rfl
theorem lexLt_cons_nil (x : Int) (xs : List Int) : lexLt (x :: xs) [] = false := rfl

theorem eqAt_int (A : Around) (s : Shared) (a : Int) (t : Tok) (c : Int) (u : Tok) : ∃ e, SeqAt.EqAt A s (.int a t) (.int c u) e ∧ (e = true ↔ a = c) :=
  ⟨(a == c), SeqAt.EqAt.int_int a t c u, by simp⟩
theorem rcLt_int (A : Around) (s : Shared) (a : Int) (t : Tok) (c : Int) (u : Tok) (prog : Program) (w : World) (E : Value → Shared → Prop) (Q : Value → Shared → Prop) (h : Q (.bool (decide (a < c))) s) :
    wpAny (model prog w) A (richCompare .Lt (.int a t) (.int c u)) Q E s :=
  (PyProof.Rows.lt_int h : wpAny (model prog w) A (compareOp .Lt (.int a t) (.int c u)) Q E s)

section
open PySem.SeqAt
open PySem.AutoSeq1 (wpAny_loadPart')
open PySem.MeetsSeq PySem.MeetsSeq2 PySem.MeetsSeq3

theorem tuple_lt_ints (l b : Addr) (items items2 : Array Value) (n n2 : Nat) (dd dd2 : Option Addr) (sl sl2 : Array (Option Value)) (ns ms : List Int) (hi : IntsAre items.toList ns) (hj : IntsAre items2.toList ms) :
    Meets (Builtin.«tuple.__lt__» ⟨[.ref l, .ref b], []⟩)
      (fun _ R s => s.heap.get? l = some { cls := .type "tuple", dict := dd, data := .seq items n, slots := sl } ∧ s.heap.get? b = some { cls := .type "tuple", dict := dd2, data := .seq items2 n2, slots := sl2 } ∧
        R (.ok (.ret (.bool (lexLt ns ms)))) s) :=
  .of_wp fun prog w A R s h => by
    obtain ⟨hp, g, d, tk, os⟩ := s; obtain ⟨hl, hb, h⟩ := h
    have f2 := AutoSeq1.sub_tuple_tuple
    have z1 : items.size = ns.length := by rw [← hi.length]; simp
    have z2 : items2.size = ms.length := by rw [← hj.length]; simp
    wp_walk using wpAny_loadPart' hl, wpAny_loadPart' hb, wpAny_forIn_list _ (fun rest b s' => b.1 = none ∧ s' = ⟨hp, g, d, tk, os⟩ ∧ ∃ (vs ws : List Value) (ns' ms' : List Int), rest = vs.zip ws ∧
      IntsAre vs ns' ∧ IntsAre ws ms' ∧ ns'.length + items2.size = ms'.length + items.size ∧ R (.ok (.ret (.bool (lexLt ns' ms')))) ⟨hp, g, d, tk, os⟩) _
    case turn =>
      rintro ⟨y, x⟩ rest b s' ⟨hb', rfl, vs, ws, ns', ms', hz, hvi, hwi, hlen, hR⟩
      cases hvi with
      | nil => rw [List.zip_nil_left] at hz; cases hz
      | cons a t hvi' =>
        cases hwi with
        | nil => rw [List.zip_nil_right] at hz; cases hz
        | cons c u hwi' =>
          rw [List.zip_cons_cons] at hz
          injection hz with hyx hrest
          injection hyx with hy hx
          subst hy hx
          rw [lexLt_cons] at hR
          simp only [List.length_cons] at hlen
          obtain ⟨e, he, hiff⟩ := eqAt_int A.in1 ⟨hp, g, d, tk, os⟩ a t c u
          refine wpAny_bind (he prog w _ _ ?_)
          cases e with
          | true =>
            rw [if_pos (hiff.mp rfl)] at hR
            wp_walk
            exact ⟨rfl, rfl, _, _, _, _, hrest, hvi', hwi', by omega, hR⟩
          | false =>
            rw [if_neg (fun q => absurd (hiff.mpr q) Bool.false_ne_true)] at hR
            have hri := rcLt_int A.in1 ⟨hp, g, d, tk, os⟩ a t c u prog w
            wp_walk using hri
            exact ⟨_, rfl, by simpa using hR⟩
    case fin =>
      rintro ⟨b1, b2⟩ s' ⟨hb', rfl, vs, ws, ns', ms', hz, hvi, hwi, hlen, hR⟩
      simp only at hb'
      subst hb'
      have hv : lexLt ns' ms' = decide (items.size < items2.size) := by
        cases hvi with
        | nil =>
          cases hwi with
          | nil =>
            simp only [List.length_nil] at hlen
            rw [lexLt_nil_nil]
            exact (decide_eq_false (by omega)).symm
          | cons c u hw =>
            simp only [List.length_nil, List.length_cons] at hlen
            rw [lexLt_nil_cons]
            exact (decide_eq_true (by omega)).symm
        | cons a t hv =>
          cases hwi with
          | nil =>
            simp only [List.length_nil, List.length_cons] at hlen
            rw [lexLt_cons_nil]
            exact (decide_eq_false (by omega)).symm
          | cons c u hw =>
            rw [List.zip_cons_cons] at hz
            cases hz
      rw [hv] at hR
      wp_walk
      exact ⟨_, rfl, by simpa [Builtin.Tuple.tupleCompareSizes] using hR⟩
    case h =>
      exact ⟨rfl, rfl, items.toList, items2.toList, ns, ms, rfl, hi, hj, by omega, h⟩
end

section
variable {prog : Program} {w : World} {A : Around} {E : Value → Shared → Prop} {s : Shared}

theorem lt_tupInts {l b : Addr} {items items2 : Array Value} {ns ms : List Int} {Q : Value → Shared → Prop} (hl : IsTup s.heap l items) (hb : IsTup s.heap b items2) (hi : IntsAre items.toList ns) (hj : IntsAre items2.toList ms)
    (hu : A.units < cLine) (h : Q (.bool (lexLt ns ms)) s) : wpAny (model prog w) A (compareOp .Lt (.ref l) (.ref b)) Q E s := by
  obtain ⟨⟨cls, dd, data, sl⟩, ho, hc, n, hd⟩ := id hl
  obtain ⟨⟨cls2, dd2, data2, sl2⟩, ho2, hc2, n2, hd2⟩ := id hb
  simp only at hc hd hc2 hd2
  subst hc hd hc2 hd2
  exact richCompare_meets_room (op := .Lt) ⟨_, ho, rfl⟩ ⟨_, ho2, rfl⟩ PySem.F.slot_tuple_lt PySem.F.entry_tuple_lt (PySem.F.args_tuple_lt_2 _ _) (tuple_lt_ints l b items items2 n n2 dd dd2 sl sl2 ns ms hi hj)
    ⟨ho, ho2, show Value.bool (lexLt ns ms) ≠ Value.notImplemented ∧ Q (.bool (lexLt ns ms)) s from ⟨(fun x => nomatch x), h⟩⟩ hu

/-- t + u, t not empty -/
theorem cat_tup {t b : Addr} {vs ws : List Value} {Q : Value → Shared → Prop} (ht : IsTup s.heap t vs.toArray) (hb : IsTup s.heap b ws.toArray) (hv : vs ≠ [])
    (h1 : ws = [] → Q (.ref t) s) (h2 : ws ≠ [] → Q (.ref s.heap.objs.size) { s with heap := s.heap.push { cls := .type "tuple", data := .seq (vs ++ ws).toArray } })
    (hsz : vs.length + ws.length ≤ sizeLine) : wpAny (model prog w) A (binaryOp .Add (.ref t) (.ref b)) Q E s := by
  obtain ⟨⟨cls, dd, data, sl⟩, ho, hc, n, hd⟩ := id ht
  obtain ⟨⟨cls2, dd2, data2, sl2⟩, ho2, hc2, n2, hd2⟩ := id hb
  simp only at hc hd hc2 hd2
  subst hc hd hc2 hd2
  have e : vs.toArray ++ ws.toArray = (vs ++ ws).toArray := by simp
  by_cases hw : ws = []
  · exact concat_meets ⟨_, ho, rfl⟩ ⟨_, ho2, rfl⟩ noFill_tuple_add seq_tuple_add PySem.F.slot_tuple_add PySem.F.entry_tuple_add (PySem.F.args_tuple_add_2 _ _)
      (tuple_addW1 t b vs.toArray ws.toArray n n2 dd dd2 sl sl2 (by simpa using hv) (by simp [hw])) ⟨ho, ho2, h1 hw⟩
  · refine concat_meets ⟨_, ho, rfl⟩ ⟨_, ho2, rfl⟩ noFill_tuple_add seq_tuple_add PySem.F.slot_tuple_add PySem.F.entry_tuple_add (PySem.F.args_tuple_add_2 _ _)
      (tuple_addW2 t b vs.toArray ws.toArray n n2 dd dd2 sl sl2 (by simpa using hv) (by simpa using hw) (by rw [List.size_toArray, List.size_toArray]; exact hsz)) ⟨ho, ho2, ?_⟩
    rw [e]
    exact h2 hw

/-! ### t[a:b], not the whole -/
/-- a slice's bound as a place among n (d where it is left out) -/
def sIx (n d : Nat) : Option Int → Nat
  | none => d
  | some v => if v < 0 then (v + (n : Int)).toNat else min v.toNat n
theorem sIx_none (n d : Nat) : sIx n d none = d := rfl
theorem sIx_nat (n d k : Nat) : sIx n d (some (k : Int)) = min k n := by
  show (if (k : Int) < 0 then ((k : Int) + (n : Int)).toNat else min (k : Int).toNat n) = min k n
  rw [if_neg (by omega), Int.toNat_natCast]
theorem sIx_le (n d : Nat) (hd : d ≤ n) (o : Option Int) : sIx n d o ≤ n := by
  cases o with
  | none => exact hd
  | some v =>
    show (if v < 0 then (v + (n : Int)).toNat else min v.toNat n) ≤ n
    by_cases hv : v < 0
    · rw [if_pos hv]; omega
    · rw [if_neg hv]; exact Nat.min_le_right _ _
theorem clip_eq (v : Int) (n d : Nat) : (if v < 0 then max (v + (n : Int)) 0 else min v (n : Int)) = ((sIx n d (some v) : Nat) : Int) := by
  show (if v < 0 then max (v + (n : Int)) 0 else min v (n : Int)) = (((if v < 0 then (v + (n : Int)).toNat else min v.toNat n) : Nat) : Int)
  by_cases hv : v < 0
  · simp only [if_pos hv]; omega
  · simp only [if_neg hv]; omega
theorem adjust_gen (lo hi : Option Int) (n : Nat) : Builtin.Slice.sliceAdjust lo hi 1 (n : Int) = (((sIx n 0 lo : Nat) : Int), ((sIx n n hi : Nat) : Int)) := by
  have h1 : ¬ ((1 : Int) < 0) := by omega
  unfold Builtin.Slice.sliceAdjust
  simp only [h1, if_false]
  refine Prod.ext ?_ ?_
  · cases lo with
    | none => rfl
    | some v => exact clip_eq v n 0
  · cases hi with
    | none => rfl
    | some v => exact clip_eq v n n
theorem places_gen (i j : Nat) : Builtin.Slice.slicePlaces (i : Int) (j : Int) 1 = j - i := by
  unfold Builtin.Slice.slicePlaces
  have h1 : (1 : Int) > 0 := by omega
  simp only [h1, if_true, Int.ediv_one]
  split <;> omega
theorem slicePart_ {v : Value} {o : Option Int} {Q : Option Int → Shared → Prop} (p : IsPart v o) (h : Q o s) : wpAny (model prog w) A (Builtin.Slice.slicePartIndex v) Q E s := by
  cases p with
  | none => exact slicePart_none h
  | int i t => exact slicePart_int h
theorem sliceApplied_gen {sl : Addr} {vl vu : Value} {lo hi : Option Int} {n : Nat} {Q : Int × Int × Nat → Shared → Prop} (hs : s.heap.IsSliceOf sl vl vu .none) (pl : IsPart vl lo) (pu : IsPart vu hi)
    (h : Q (((sIx n 0 lo : Nat) : Int), 1, sIx n n hi - sIx n 0 lo) s) : wpAny (model prog w) A (Builtin.Slice.sliceApplied (.ref sl) (pure (n : Int))) Q E s := by
  obtain ⟨os, hos, hcs, hds⟩ := id hs
  unfold Builtin.Slice.sliceApplied Builtin.Slice.sliceFields
  refine wpAny_bind (wpAny_bind (wpAny_field hos hds (x := vl) rfl (wpAny_bind (wpAny_field hos hds (x := vu) rfl (wpAny_bind (wpAny_field hos hds (x := .none) rfl (wpAny_pure ?_)))))))
  refine wpAny_bind (slicePart_none ?_)
  show wpAny _ _ (if ((1 : Int) == 0) = true then _ else _) _ _ s
  rw [if_neg (by decide)]
  refine wpAny_bind (slicePart_ pl (wpAny_bind (slicePart_ pu (wpAny_bind (wpAny_pure ?_)))))
  show wpAny _ _ (match Builtin.Slice.sliceAdjust lo hi 1 (n : Int) with | (lo, hi) => pure (lo, (1 : Int), Builtin.Slice.slicePlaces lo hi 1)) _ _ s
  rw [adjust_gen lo hi n]
  show wpAny _ _ (pure (((sIx n 0 lo : Nat) : Int), (1 : Int), Builtin.Slice.slicePlaces ((sIx n 0 lo : Nat) : Int) ((sIx n n hi : Nat) : Int) 1)) _ _ s
  rw [places_gen]
  exact wpAny_pure h
theorem pick_gen (xs : Array Value) (i k : Nat) : ((List.range k).filterMap fun (m : Nat) => xs[((i : Int) + (m : Int) * 1).toNat]?).toArray = ((xs.toList.drop i).take k).toArray := by
  have e : (fun (m : Nat) => xs[((i : Int) + (m : Int) * 1).toNat]?) = fun m => xs[i + m]? := by
    funext m
    have : ((i : Int) + (m : Int) * 1).toNat = i + m := by omega
    rw [this]
  rw [e]
  have := pick_run xs i k
  rw [List.filterMap_map] at this
  have e2 : ((fun x => xs[x]?) ∘ fun x => i + x) = fun m => xs[i + m]? := rfl
  rw [e2] at this
  rw [this]

theorem getItem_tuple_cut {t sl : Addr} {items : Array Value} {vl vu : Value} {lo hi : Option Int} {Q : Value → Shared → Prop} (ht : IsTup s.heap t items) (hs : s.heap.IsSliceOf sl vl vu .none) (pl : IsPart vl lo) (pu : IsPart vu hi)
    (hw : ¬ (sIx items.size 0 lo = 0 ∧ sIx items.size items.size hi = items.size))
    (h : Q (.ref s.heap.objs.size) { s with heap := s.heap.push { cls := .type "tuple", data := .seq ((items.toList.drop (sIx items.size 0 lo)).take (sIx items.size items.size hi - sIx items.size 0 lo)).toArray } })
    (hsz : items.size ≤ sizeLine) : wpAny (model prog w) A (getItem (.ref t) (.ref sl)) Q E s := by
  have htake : sizeOk (.seq ((items.toList.drop (sIx items.size 0 lo)).take (sIx items.size items.size hi - sIx items.size 0 lo)).toArray) := by
    show ((items.toList.drop (sIx items.size 0 lo)).take (sIx items.size items.size hi - sIx items.size 0 lo)).toArray.size ≤ sizeLine
    rw [List.size_toArray, List.length_take, List.length_drop, Array.length_toList]
    omega
  have hj : sIx items.size items.size hi ≤ items.size := sIx_le _ _ (Nat.le_refl _) hi
  obtain ⟨os, hos, hcs, hds⟩ := id hs
  have hTs : s.TypeIs (.ref sl) "slice" := ⟨os, hos, hcs⟩
  unfold getItem
  try with_reducible refine wpAny_holding ?_
  first | refine wpAny_bind (wpAny_pure ?_) | skip
  refine wpAny_bind (wpAny_sequenceKey ht.typeIs (by decide) ?_)
  refine wpAny_bind (wpAny_callSpecial?_slot (name := Str.ofString "__getitem__") ht.typeIs PyProof.Rows.slot_tuple_getitem
    (wpAny_call_entry PyProof.Rows.slot_tuple_getitem ht.typeIs entry_tuple_getitem ?_ (args_tuple_getitem _ _)))
  show wpAny _ _ (Builtin.Tuple.tupleItemsOf (.ref t) >>= _) _ _ s
  refine wpAny_bind (tupleItemsOf_ ht ?_)
  refine wpAny_bind (wpAny_typeOf hTs ?_)
  rw [if_pos (by decide)]
  refine wpAny_bind (sliceApplied_gen hs pl pu ?_)
  have hno : ¬ ((((sIx items.size 0 lo : Nat) : Int) == 0 && (1 : Int) == 1 && (sIx items.size items.size hi - sIx items.size 0 lo) == items.size) = true) := by
    intro q
    rw [Bool.and_eq_true, Bool.and_eq_true] at q
    have q1 : ((sIx items.size 0 lo : Nat) : Int) = 0 := eq_of_beq q.1.1
    have q2 : sIx items.size items.size hi - sIx items.size 0 lo = items.size := eq_of_beq q.2
    exact hw ⟨by omega, by omega⟩
  show wpAny _ _ (if (((sIx items.size 0 lo : Nat) : Int) == 0 && (1 : Int) == 1 && (sIx items.size items.size hi - sIx items.size 0 lo) == items.size) = true then _ else _) _ _ s
  rw [if_neg hno, pick_gen]
  first
    | exact wpAny_bind (m := Builtin.Tuple.tupleExact _) (wpAny_newObj_type (wpAny_pure ⟨_, rfl, wpAny_pure h⟩) htake)
    | exact wpAny_bind (m := Builtin.Tuple.tupleExact _) (wpAny_newObj_type (wpAny_bind (wpAny_pure (wpAny_pure ⟨_, rfl, wpAny_pure h⟩))) htake)
    | exact wpAny_bind (wpAny_bind (m := Builtin.Tuple.tupleExact _) (wpAny_newObj_type (wpAny_pure (wpAny_pure ⟨_, rfl, wpAny_pure h⟩)) htake))
    | exact wpAny_bind (wpAny_bind (m := Builtin.Tuple.tupleExact _) (wpAny_newObj_type (wpAny_pure ⟨_, rfl, wpAny_pure h⟩) htake))
end
end HT

namespace L2
open PySem PySem.Spec PyProof.Rows

/-! ### the parts of a slice -/
abbrev TO := St → Hp → (Option Int → Hp → Prop) → Prop
/-- a slice's part (left out, or an int) -/
def PO (X : Cx) (e : Option Expr) (t : TO) : Prop :=
  ∀ (pins : List (Addr × Obj)) (s : Shared) (σ : St) (H : Hp) (Q : Option Int → Hp → Prop), Inv X pins σ H s → t σ H Q →
    wpAny (model X.prog X.w) X.A (evalPart e X.env) (fun u s' => ∃ o H', Inv X pins σ H' s' ∧ IsPart u o ∧ Q o H') X.xe s
def tNoPart : TO := fun _ H Q => Q none H
def tPart (t : TE) : TO := fun σ H Q => t σ H fun x H1 => ∃ i, x = .int i ∧ Q (some i) H1

theorem intsAre_of {ns : List Int} : ∀ {us : List Value}, Vals (ns.map V.int) us → IntsAre us ns := by
  induction ns with
  | nil => intro us r; rw [List.map_nil] at r; cases r; exact .nil
  | cons n ns ih =>
    intro us r
    rw [List.map_cons] at r
    cases r with
    | cons r1 r2 =>
      obtain ⟨t, e⟩ := r1
      subst e
      exact .cons n t (ih r2)

section
variable {X : Cx} {e : Expr} {te : TE} {lo hi : Option Expr} {tl th : TO} {pos p2 : Pos}

theorem po_none : PO X none tNoPart := by
  intro pins s σ H Q I h
  rw [evalPart_none]
  exact wpAny_pure ⟨none, H, I, .none, h⟩
theorem po_some (h : PE X e te) : PO X (some e) (tPart te) := by
  intro pins s σ H Q I hw
  rw [evalPart_some]
  refine thn (h pins s σ H _ I hw) fun u s1 ⟨x, H1, I1, r1, q1⟩ => ?_
  obtain ⟨i, rfl, q⟩ := q1
  obtain ⟨t, rfl⟩ := r1
  exact ⟨some i, H1, I1, .int i t, q⟩

/-- what a slice of a value is, by values: the slice object stands at sl -/
def SlR (X : Cx) (r : V → Option Int → Option Int → Hp → VK → Prop) : Prop :=
  ∀ (pins : List (Addr × Obj)) (s : Shared) (σ : St) (H : Hp) (x : V) (v vl vu : Value) (lo hi : Option Int) (sl : Addr) (Q : VK), Inv X pins σ H s → RelV x v → s.heap.IsSliceOf sl vl vu .none → IsPart vl lo → IsPart vu hi → r x lo hi H Q →
    ∃ T id, typeLookup (.type T) "__getitem__" = pure (some (.builtin id)) ∧ s.TypeIs v T ∧ wpAny (model X.prog X.w) X.A (getItem v (.ref sl)) (EP X pins σ Q) X.xe s
theorem SlR.or {r r' : V → Option Int → Option Int → Hp → VK → Prop} (h : SlR X r) (h' : SlR X r') : SlR X (fun x lo hi H Q => r x lo hi H Q ∨ r' x lo hi H Q) := by
  intro pins s σ H x v vl vu lo hi sl Q I rx hs pl pu q
  rcases q with q | q
  · exact h pins s σ H x v vl vu lo hi sl Q I rx hs pl pu q
  · exact h' pins s σ H x v vl vu lo hi sl Q I rx hs pl pu q
def tSl (r : V → Option Int → Option Int → Hp → VK → Prop) (te : TE) (tl th : TO) : TE := fun σ H Q => te σ H fun x H1 => tl σ H1 fun l H2 => th σ H2 fun u H3 => r x l u H3 Q
/-- a[lo:hi], any a -/
theorem pe_slice {r : V → Option Int → Option Int → Hp → VK → Prop} (hr : SlR X r) (he : PE X e te) (hl : PO X lo tl) (hu : PO X hi th) : PE X (.Subscript e (.Slice lo hi none p2) pos) (tSl r te tl th) := by
  intro pins s σ H Q I h
  refine Subscript_ (thn (he pins s σ H _ I h) fun v s1 ⟨x, H1, I1, r1, q1⟩ => ?_)
  refine wpAny_Slice (thn (hl pins s1 σ H1 _ I1 q1) fun vl s2 ⟨l, H2, I2, pl, q2⟩ => thn (hu pins s2 σ H2 _ I2 q2) fun vu s3 ⟨u, H3, I3, pu, q3⟩ => ?_)
  rw [evalPart_none]
  refine wpAny_pure ?_
  have I4 : Inv X pins σ H3 { s3 with heap := s3.heap.push { cls := .type "slice", data := .fields #[vl, vu, .none] } } := I3.kept (t' := s3.toks) fun b ob q => Heap.get?_push_of_some _ q
  obtain ⟨T, id, hT, ht, hg⟩ := hr pins { s3 with heap := s3.heap.push { cls := .type "slice", data := .fields #[vl, vu, .none] } } σ H3 x v vl vu l u s3.heap.objs.size Q I4 r1 (Heap.IsSliceOf.new ..) pl pu q3
  show wpAny (model X.prog X.w) X.A (subscriptTail e (.Slice lo hi none p2) v (.ref s3.heap.objs.size)) (EP X pins σ Q) X.xe { s3 with heap := s3.heap.push { cls := .type "slice", data := .fields #[vl, vu, .none] } }
  exact tail_any (ops := [.ref s3.heap.objs.size, v]) ht hT hg (by with_unfolding_all rfl)

/-- the items of xs[lo:hi] -/
def cutV (xs : List V) (lo hi : Option Int) : List V := (xs.drop (HT.sIx xs.length 0 lo)).take (HT.sIx xs.length xs.length hi - HT.sIx xs.length 0 lo)
theorem cutV_length (xs : List V) (lo hi : Option Int) : (cutV xs lo hi).length ≤ xs.length := by
  unfold cutV
  rw [List.length_take, List.length_drop]
  omega
/-- t[lo:hi], not the whole of it (the whole would be t itself) -/
def rSlT (K : PySem.W.Frag) : V → Option Int → Option Int → Hp → VK → Prop := fun x lo hi H Q => ∃ a xs, x = .ref a ∧ SqT K H a xs ∧
  ¬ (HT.sIx xs.length 0 lo = 0 ∧ HT.sIx xs.length xs.length hi = xs.length) ∧ ∀ p, H p = none → Q (.ref p) (upd H p (.tup (cutV xs lo hi)))
theorem sl_tup : SlR X (rSlT X.K) := by
  intro pins s σ H x v vl vu lo hi sl Q I rx hs pl pu h
  obtain ⟨a, xs, rfl, hx, hw, q⟩ := h
  cases rx
  obtain ⟨its, r, ht, hz⟩ := I.tuple hx
  have hlen : its.toArray.size = xs.length := by rw [List.size_toArray]; exact r.length.symm
  refine ⟨"tuple", _, PyProof.Rows.slot_tuple_getitem.lookup, ht.typeIs, ?_⟩
  refine HT.getItem_tuple_cut ht hs pl pu (by rw [hlen]; exact hw) ?_ (by rw [hlen]; exact hz)
  rw [hlen]
  refine ⟨.ref s.heap.objs.size, _, I.laid (t' := s.toks) (o := .tup (cutV xs lo hi)) (fun b ob q => Heap.get?_push_of_some _ q) (Nat.le_refl _) ?_, rfl, q _ (I.hok.fresh (Nat.le_refl _))⟩
  exact ⟨Nat.le_trans (cutV_length xs lo hi) hz, _, (r.drop (HT.sIx xs.length 0 lo)).take (HT.sIx xs.length xs.length hi - HT.sIx xs.length 0 lo), IsTup.new _ _⟩

/-! ### t < u, t + u -/
def rLtT (K : PySem.W.Frag) : R2 := fun x y H Q => ∃ a b ns ms, x = .ref a ∧ y = .ref b ∧ SqT K H a (ns.map V.int) ∧ SqT K H b (ms.map V.int) ∧ Q (.bl (HT.lexLt ns ms)) H
theorem op_ltT (hu : X.A.units < cLine) : OpR X (compareOp .Lt) (rLtT X.K) := by
  intro pins s σ H x y v u Q I rx ry h
  obtain ⟨a, b, ns, ms, rfl, rfl, ha, hb, q⟩ := h
  cases rx
  cases ry
  obtain ⟨its, r1, p1, _⟩ := I.tuple ha
  obtain ⟨its2, r2, p2, _⟩ := I.tuple hb
  have i1 : IntsAre its.toArray.toList ns := intsAre_of r1
  have i2 : IntsAre its2.toArray.toList ms := intsAre_of r2
  exact HT.lt_tupInts p1 p2 i1 i2 hu ⟨.bl (HT.lexLt ns ms), H, I, rfl, q⟩
/-- t + u, t not empty: u empty gives t itself -/
def rCatT (K : PySem.W.Frag) : R2 := fun x y H Q => ∃ a b xs ys, x = .ref a ∧ y = .ref b ∧ SqT K H a xs ∧ SqT K H b ys ∧ xs ≠ [] ∧ xs.length + ys.length ≤ sizeLine ∧
  (ys = [] → Q (.ref a) H) ∧ (ys ≠ [] → ∀ p, H p = none → Q (.ref p) (upd H p (.tup (xs ++ ys))))
theorem Vals.nil_iff {xs : List V} {us : List Value} (r : Vals xs us) : us = [] ↔ xs = [] := by
  cases r with
  | nil => simp
  | cons _ _ => simp
theorem op_catT : OpR X (binaryOp .Add) (rCatT X.K) := by
  intro pins s σ H x y v u Q I rx ry h
  obtain ⟨a, b, xs, ys, rfl, rfl, ha, hb, hx, hz, q1, q2⟩ := h
  cases rx
  cases ry
  obtain ⟨its, r1, p1, _⟩ := I.tuple ha
  obtain ⟨its2, r2, p2, _⟩ := I.tuple hb
  refine HT.cat_tup p1 p2 (fun z => hx (r1.nil_iff.mp z)) (fun z => ⟨.ref a, H, I, rfl, q1 (r2.nil_iff.mp z)⟩) (fun z => ?_) (by rw [← r1.length, ← r2.length]; exact hz)
  refine ⟨.ref s.heap.objs.size, _, I.laid (t' := s.toks) (o := .tup (xs ++ ys)) (fun b ob q => Heap.get?_push_of_some _ q) (Nat.le_refl _) ?_, rfl, q2 (fun w => z (r2.nil_iff.mpr w)) _ (I.hok.fresh (Nat.le_refl _))⟩
  exact ⟨by rw [List.length_append]; exact hz, _, r1.append r2, IsTup.new _ _⟩
/-- tuple(t) -/
theorem call_tupleT : CallR X (.type "tuple") (fun xs H Q => ∃ a ys, xs = [.ref a] ∧ SqT X.K H a ys ∧ Q (.ref a) H) := by
  intro pins s σ H xs us Q I r h
  obtain ⟨a, ys, rfl, ha, q⟩ := h
  obtain ⟨u, rfl, ru⟩ := vals1 r
  cases ru
  obtain ⟨its, _, p1, _⟩ := I.tuple ha
  exact call_tuple_same (items := its.toArray) p1 ⟨.ref a, H, I, rfl, q⟩
end
end L2

namespace L2
open PySem PySem.Spec PyProof.Rows

/-! ### places -/
/-- the place that an index of any sign means -/
def ixN (n : Nat) (i : Int) : Option Nat := if 0 ≤ i then (if i < n then some i.toNat else none) else if -(n : Int) ≤ i then some (i + n).toNat else none
def atI {α : Type} (xs : List α) (i : Int) : Option α := (ixN xs.length i).bind fun j => xs[j]?
theorem ixN_seq {n : Nat} {i : Int} {j : Nat} (h : ixN n i = some j) : seqIndex? i n = some j ∧ j < n ∧ -(n : Int) ≤ i ∧ i < n := by
  unfold ixN at h
  by_cases h0 : 0 ≤ i
  · rw [if_pos h0] at h
    by_cases h1 : i < n
    · rw [if_pos h1] at h
      have e : i.toNat = j := Option.some.inj h
      exact ⟨by rw [seqIndex_of h0 h1, e], by omega, by omega, h1⟩
    · rw [if_neg h1] at h; cases h
  · rw [if_neg h0] at h
    by_cases h1 : -(n : Int) ≤ i
    · rw [if_pos h1] at h
      have e : (i + n).toNat = j := Option.some.inj h
      exact ⟨by rw [seqIndex_neg (by omega) h1, e], by omega, h1, by omega⟩
    · rw [if_neg h1] at h; cases h
theorem atI_get {α : Type} {xs : List α} {i : Int} {v : α} (h : atI xs i = some v) : ∃ j, seqIndex? i xs.length = some j ∧ xs[j]? = some v ∧ j < xs.length ∧ -(xs.length : Int) ≤ i ∧ i < xs.length := by
  unfold atI at h
  cases e : ixN xs.length i with
  | none => rw [e] at h; cases h
  | some j =>
    rw [e] at h
    obtain ⟨h1, h2, h3, h4⟩ := ixN_seq e
    exact ⟨j, h1, h, h2, h3, h4⟩
theorem atI_nat {α : Type} {xs : List α} {j : Nat} {v : α} (h : xs[j]? = some v) : atI xs (j : Int) = some v := by
  have hj : j < xs.length := (List.getElem?_eq_some_iff.mp h).1
  have e : ixN xs.length (j : Int) = some j := by
    unfold ixN
    rw [if_pos (by omega), if_pos (by omega)]; simp
  unfold atI; rw [e]; exact h
theorem atI_last {α : Type} (xs : List α) (v : α) : atI (xs ++ [v]) (-1) = some v := by
  have hl : (xs ++ [v]).length = xs.length + 1 := by simp
  have e : ixN (xs ++ [v]).length (-1) = some xs.length := by
    unfold ixN
    rw [hl, if_neg (by decide), if_pos (by omega)]
    congr 1
    omega
  unfold atI
  rw [e]
  show (xs ++ [v])[xs.length]? = some v
  simp

/-! ### what may be subscripted -/
/-- what stands as an index of a plain subscript -/
def PlainIx (b : Expr) : Prop := ∀ o i, subscripted b false o i = operate [o, i] (getItem o i)
/-- a subscript by values -/
def IxR (X : Cx) (r : R2) : Prop :=
  ∀ (value slice : Expr) (pins : List (Addr × Obj)) (s : Shared) (σ : St) (H : Hp) (x y : V) (v u : Value) (Q : VK), Inv X pins σ H s → RelV x v → RelV y u → r x y H Q →
    subscripted slice false v u = operate [v, u] (getItem v u) → wpAny (model X.prog X.w) X.A (subscriptTail value slice v u) (EP X pins σ Q) X.xe s
/-- a call of a builtin's method by values: the receiver, the arguments -/
def MtR (X : Cx) (id : String) (r : V → List V → Hp → VK → Prop) : Prop :=
  ∀ (pins : List (Addr × Obj)) (s : Shared) (σ : St) (H : Hp) (x : V) (xs : List V) (v : Value) (us : List Value) (Q : VK), Inv X pins σ H s → RelV x v → Vals xs us → r x xs H Q →
    wpAny (model X.prog X.w) X.A (call (.builtin id) (v :: us)) (EP X pins σ Q) X.xe s
section
variable {X : Cx} {a b : Expr} {ta tb : TE} {pos : Pos}
theorem IxR.or {r r' : R2} (h : IxR X r) (h' : IxR X r') : IxR X (fun x y H Q => r x y H Q ∨ r' x y H Q) := by
  intro value slice pins s σ H x y v u Q I rx ry q hs
  rcases q with q | q
  · exact h value slice pins s σ H x y v u Q I rx ry q hs
  · exact h' value slice pins s σ H x y v u Q I rx ry q hs
theorem MtR.or {id : String} {r r' : V → List V → Hp → VK → Prop} (h : MtR X id r) (h' : MtR X id r') : MtR X id (fun x xs H Q => r x xs H Q ∨ r' x xs H Q) := by
  intro pins s σ H x xs v us Q I rx rs q
  rcases q with q | q
  · exact h pins s σ H x xs v us Q I rx rs q
  · exact h' pins s σ H x xs v us Q I rx rs q
/-- a[b] -/
theorem pe_ix {r : R2} (hr : IxR X r) (ha : PE X a ta) (hb : PE X b tb) (hs : PlainIx b) : PE X (.Subscript a b pos) (tOp r ta tb) := by
  intro pins s σ H Q I h
  exact Subscript_ (binT ha hb I h fun v u s2 x y H2 I2 rx ry q => hr a b pins s2 σ H2 x y v u Q I2 rx ry q (hs _ _))

def rIxL (K : PySem.W.Frag) : R2 := fun x y H Q => ∃ p xs i v, x = .ref p ∧ y = .int i ∧ SqL K H p xs ∧ atI xs i = some v ∧ Q v H
def rIxT (K : PySem.W.Frag) : R2 := fun x y H Q => ∃ p xs i v, x = .ref p ∧ y = .int i ∧ SqT K H p xs ∧ atI xs i = some v ∧ Q v H
def rIxS : R2 := fun x y H Q => ∃ z i c, x = .str z ∧ y = .int i ∧ z.length ≤ sizeLine ∧ atI z.cps.toList i = some c ∧ Q (.str ⟨#[c]⟩) H
theorem ix_list : IxR X (rIxL X.K) := by
  intro value slice pins s σ H x y v u Q I rx ry h hs
  obtain ⟨p, xs, i, z, rfl, rfl, hq, he, q⟩ := h
  cases rx
  obtain ⟨t, rfl⟩ := ry
  obtain ⟨its, r, pl, hz⟩ := I.list hq
  obtain ⟨j, h1, h2, h3, h4, h5⟩ := atI_get he
  obtain ⟨w, ew, rw'⟩ := r.get h2
  have hl := r.length
  have hn := line63
  have fin : EP X pins σ Q w s := ⟨z, H, I, rw', q⟩
  by_cases h0 : 0 ≤ i
  · have hj : i.toNat = j := by
      rw [seqIndex_of h0 h5] at h1
      exact Option.some.inj h1
    exact item_listR pl.isList h0 (by omega) (by rw [hj]; simpa using ew) fin hs
  · have hj : (i + (its.toArray.size : Int)).toNat = j := by
      rw [seqIndex_neg (by omega) h4] at h1
      rw [List.size_toArray, ← hl]
      exact Option.some.inj h1
    exact subscriptTail_builtinR (x := w) pl.isList.typeIs slot_list_getitem.lookup
      (wpAny_getItem_list_neg (Q := fun r s' => r = w ∧ EP X pins σ Q r s') pl.isList (by omega) (by rw [List.size_toArray] <;> omega) (by omega) (by rw [hj]; simpa using ew) ⟨rfl, fin⟩) hs
theorem ix_tup : IxR X (rIxT X.K) := by
  intro value slice pins s σ H x y v u Q I rx ry h hs
  obtain ⟨p, xs, i, z, rfl, rfl, hq, he, q⟩ := h
  cases rx
  obtain ⟨t, rfl⟩ := ry
  obtain ⟨its, r, pl, hz⟩ := I.tuple hq
  obtain ⟨j, h1, h2, h3, h4, h5⟩ := atI_get he
  obtain ⟨w, ew, rw'⟩ := r.get h2
  have hl := r.length
  have hn := line63
  have fin : EP X pins σ Q w s := ⟨z, H, I, rw', q⟩
  exact subscriptTail_builtinR (x := w) pl.typeIs slot_tuple_getitem.lookup
    (getItem_tuple (j := j) (Q := fun r s' => r = w ∧ EP X pins σ Q r s') pl (by omega) (by omega) (by rw [List.size_toArray, ← hl]; exact h1) (by simpa using ew) ⟨rfl, fin⟩) hs
theorem ix_str : IxR X rIxS := by
  intro value slice pins s σ H x y v u Q I rx ry h hs
  obtain ⟨z, i, c, rfl, rfl, hz, he, q⟩ := h
  obtain ⟨t, rfl⟩ := rx
  obtain ⟨t', rfl⟩ := ry
  obtain ⟨j, h1, h2, h3, h4, h5⟩ := atI_get he
  have hl : z.cps.toList.length = z.length := by simp [Str.length]
  rw [hl] at h1 h4 h5
  have hn := line63
  exact tail_any (typeIs_str s z t) slot_str_getitem.lookup (getItem_str (c := c) (by
    have e1 : decide (i < -(2 ^ 63 : Int)) = false := decide_eq_false (by omega)
    have e2 : decide (i ≥ 2 ^ 63) = false := decide_eq_false (by omega)
    rw [e1, e2, Bool.or_false]) (by rw [h1]; simpa using h2) ⟨.str ⟨#[c]⟩, H, I.tok _, ⟨_, rfl⟩, q⟩) hs
/-- list, tuple or str -/
def rIx (K : PySem.W.Frag) : R2 := fun x y H Q => rIxL K x y H Q ∨ rIxT K x y H Q ∨ rIxS x y H Q
theorem ix_seq : IxR X (rIx X.K) := ix_list.or (ix_tup.or ix_str)

/-! ### xs[i] = v, any sign -/
/-- the list's object behind a store -/
theorem mapSeq_set (its : List Value) (n j : Nat) (u : Value) : Obj.mapSeq (·.setIfInBounds j u) { cls := .type "list", data := .seq its.toArray n } = { cls := .type "list", data := .seq (its.set j u).toArray n } := by
  simp [Obj.mapSeq]
theorem Inv.lst {pins : List (Addr × Obj)} {σ : St} {H : Hp} {s : Shared} {p : Addr} {xs : List V} (I : Inv X pins σ H s) (h : H p = some (.lst xs)) :
    ∃ (its : List Value) (n : Nat), Vals xs its ∧ s.heap.get? p = some { cls := .type "list", data := .seq its.toArray n } ∧ xs.length ≤ sizeLine := by
  obtain ⟨z, its, n, r, e⟩ := I.hok p _ h
  exact ⟨its, n, r, e, z⟩
/-- the list at p is written by an update of its object -/
theorem Inv.lstUpd {pins : List (Addr × Obj)} {σ : St} {H : Hp} {s : Shared} {p : Addr} {xs ys : List V} {its its' : List Value} {n n' : Nat} {f : Obj → Obj} (I : Inv X pins σ H s) (h : H p = some (.lst xs))
    (ho : s.heap.get? p = some { cls := .type "list", data := .seq its.toArray n }) (hf : f { cls := .type "list", data := .seq its.toArray n } = { cls := .type "list", data := .seq its'.toArray n' }) (r : Vals ys its') (hz : ys.length ≤ sizeLine) (t : Nat) :
    Inv X pins σ (upd H p (.lst ys)) { s with heap := s.heap.update p f, toks := t } := by
  have e : (s.heap.update p f).get? p = some { cls := .type "list", data := .seq its'.toArray n' } := by
    rw [Heap.get?_update_self f ho (by rw [hf] <;> rfl), hf]
  refine I.write (x := p) (e := p) (by rw [h]; trivial) (.inl rfl) (fun b u hb q => (Heap.get?_update_other _ _ (Ne.symm hb)).trans q) ⟨_, e⟩ ?_
  exact ⟨hz, its', n', r, e⟩
def rSetL : V → V → V → Hp → (Hp → Prop) → Prop := fun o i v H Q => ∃ p xs k j, o = .ref p ∧ i = .int k ∧ H p = some (.lst xs) ∧ ixN xs.length k = some j ∧ Q (upd H p (.lst (xs.set j v)))
theorem set_list : PSet X rSetL := by
  intro pins s σ H o i v ov iv u Q I ro ri rv h
  obtain ⟨p, xs, k, j, rfl, rfl, hp, hj, q⟩ := h
  cases ro
  obtain ⟨t, rfl⟩ := ri
  obtain ⟨its, n, r, ho, hz⟩ := I.lst hp
  obtain ⟨h1, h2, h3, h4⟩ := ixN_seq hj
  have hl := r.length
  have hn := line63
  have I' : Inv X pins σ (upd H p (.lst (xs.set j v))) { s with heap := s.heap.update p (Obj.mapSeq (·.setIfInBounds j u)) } :=
    I.lstUpd hp ho (mapSeq_set its n j u) (r.set rv j) (by rw [List.length_set]; exact hz) s.toks
  by_cases h0 : 0 ≤ k
  · have hk : k.toNat = j := by
      rw [seqIndex_of h0 h4] at h1
      exact Option.some.inj h1
    exact PySem.W.ki_setAt ho h0 (by omega) (by rw [List.size_toArray, ← hl]; exact h4) (by rw [hk]; exact ⟨_, I', q⟩)
  · have hk : (k + (its.toArray.size : Int)).toNat = j := by
      rw [seqIndex_neg (by omega) h3] at h1
      rw [List.size_toArray, ← hl]
      exact Option.some.inj h1
    exact PySem.W.ki_setBack ho (by omega) (by rw [List.size_toArray, ← hl]; exact h3) (by omega) (by rw [hk]; exact ⟨_, I', q⟩)

/-! ### slices -/
theorem slice_bounds (lo hi : Option Int) (n : Nat) : (sliceBounds lo hi none n).1 = ((HT.sIx n 0 lo : Nat) : Int) ∧ (sliceBounds lo hi none n).2.1 = ((HT.sIx n n hi : Nat) : Int) ∧ (sliceBounds lo hi none n).2.2 = 1 := by
  refine ⟨?_, ?_, rfl⟩
  · cases lo with
    | none => simp [sliceBounds, HT.sIx]
    | some i =>
      simp only [sliceBounds, HT.sIx, Option.getD_none, show (1 : Int) > 0 by decide, if_true]
      by_cases h : i < 0
      · simp only [h, if_true] <;> omega
      · simp only [h, if_false] <;> omega
  · cases hi with
    | none => simp [sliceBounds, HT.sIx]
    | some i =>
      simp only [sliceBounds, HT.sIx, Option.getD_none, show (1 : Int) > 0 by decide, if_true]
      by_cases h : i < 0
      · simp only [h, if_true] <;> omega
      · simp only [h, if_false] <;> omega
theorem slicePick_cut (its : List Value) (lo hi : Option Int) : slicePick its.toArray lo hi none = ((its.drop (HT.sIx its.length 0 lo)).take (HT.sIx its.length its.length hi - HT.sIx its.length 0 lo)).toArray := by
  obtain ⟨h1, h2, h3⟩ := slice_bounds lo hi its.toArray.size
  unfold slicePick
  rw [h1, h2, h3]
  simp only [sliceRange_one, pick_run, List.size_toArray] <;> rfl
/-- xs[lo:hi] of a list: a new list -/
def rSlL (K : PySem.W.Frag) : V → Option Int → Option Int → Hp → VK → Prop := fun x lo hi H Q => ∃ a xs, x = .ref a ∧ SqL K H a xs ∧ ∀ p, H p = none → Q (.ref p) (upd H p (.lst (cutV xs lo hi)))
theorem sl_list : SlR X (rSlL X.K) := by
  intro pins s σ H x v vl vu lo hi sl Q I rx hs pl pu h
  obtain ⟨a, xs, rfl, hx, q⟩ := h
  cases rx
  obtain ⟨its, r, ht, hz⟩ := I.list hx
  have hlen := r.length
  refine ⟨"list", _, slot_list_getitem.lookup, ht.isList.typeIs, ?_⟩
  refine wpAny_getItem_list_slice ht.isList hs pl pu .none (by simp) ?_ (by rw [List.size_toArray] <;> omega)
  rw [slicePick_cut, ← hlen]
  refine ⟨.ref s.heap.objs.size, _, I.laid (t' := s.toks) (o := .lst (cutV xs lo hi)) (fun b ob q => Heap.get?_push_of_some _ q) (Nat.le_refl _) ?_, rfl, q _ (I.hok.fresh (Nat.le_refl _))⟩
  exact ⟨Nat.le_trans (cutV_length xs lo hi) hz, _, 0, (r.drop (HT.sIx xs.length 0 lo)).take (HT.sIx xs.length xs.length hi - HT.sIx xs.length 0 lo), Heap.get?_push_size _ rfl⟩

/-! ### in, not in: flat items -/
def flatV : V → Bool
  | .non => true
  | .bl _ => true
  | .int _ => true
  | .str _ => true
  | _ => false
/-- == of flat values -/
def eqV : V → V → Bool
  | .non, .non => true
  | .bl a, .bl b => a == b
  | .bl a, .int b => (if a then 1 else 0) == b
  | .int a, .bl b => a == (if b then 1 else 0)
  | .int a, .int b => a == b
  | .str a, .str b => a == b
  | _, _ => false
theorem eqAt_V {A : Around} {s : Shared} {y x : V} {u v : Value} (ry : RelV y u) (rx : RelV x v) (fy : flatV y = true) (fx : flatV x = true) : SeqAt.EqAt A s u v (eqV y x) := by
  cases y with
  | non =>
    cases ry
    cases x with
    | non => cases rx; exact SeqAt.EqAt.same _
    | bl b => cases rx; exact SeqAt.EqAt.none_bool b
    | int b => obtain ⟨t, rfl⟩ := rx; exact SeqAt.EqAt.none_int b t
    | str b => obtain ⟨t, rfl⟩ := rx; exact SeqAt.EqAt.none_str b t
    | _ => exact absurd (show false = true from fx) Bool.false_ne_true
  | bl a =>
    cases ry
    cases x with
    | non => cases rx; exact SeqAt.EqAt.bool_none a
    | bl b => cases rx; exact SeqAt.EqAt.bool_bool a b
    | int b => obtain ⟨t, rfl⟩ := rx; exact SeqAt.EqAt.bool_int a b t
    | str b => obtain ⟨t, rfl⟩ := rx; exact SeqAt.EqAt.bool_str a b t
    | _ => exact absurd (show false = true from fx) Bool.false_ne_true
  | int a =>
    obtain ⟨t', rfl⟩ := ry
    cases x with
    | non => cases rx; exact SeqAt.EqAt.int_none a t'
    | bl b => cases rx; exact SeqAt.EqAt.int_bool a t' b
    | int b => obtain ⟨t, rfl⟩ := rx; exact SeqAt.EqAt.int_int a t' b t
    | str b => obtain ⟨t, rfl⟩ := rx; exact SeqAt.EqAt.int_str a t' b t
    | _ => exact absurd (show false = true from fx) Bool.false_ne_true
  | str a =>
    obtain ⟨t', rfl⟩ := ry
    cases x with
    | non => cases rx; exact SeqAt.EqAt.str_none a t'
    | bl b => cases rx; exact SeqAt.EqAt.str_bool a t' b
    | int b => obtain ⟨t, rfl⟩ := rx; exact SeqAt.EqAt.str_int a t' b t
    | str b => obtain ⟨t, rfl⟩ := rx; exact SeqAt.EqAt.str_str a t' b t
    | _ => exact absurd (show false = true from fx) Bool.false_ne_true
  | _ => exact absurd (show false = true from fy) Bool.false_ne_true
/-- the items' answers, read off the values (a value's own answer does not lean on its token) -/
def eqU (x : V) (u : Value) : Bool := match u with
  | .none => eqV .non x
  | .bool b => eqV (.bl b) x
  | .int i _ => eqV (.int i) x
  | .str z _ => eqV (.str z) x
  | _ => false
theorem eqU_of {x y : V} {u : Value} (r : RelV y u) (f : flatV y = true) : eqU x u = eqV y x := by
  cases y with
  | non => cases r; rfl
  | bl b => cases r; rfl
  | int i => obtain ⟨t, rfl⟩ := r; rfl
  | str z => obtain ⟨t, rfl⟩ := r; rfl
  | _ => exact absurd (show false = true from f) Bool.false_ne_true
theorem any_eqU {x : V} : ∀ {xs : List V} {us : List Value}, Vals xs us → xs.all flatV = true → us.any (eqU x) = xs.any fun y => eqV y x
  | _, _, .nil, _ => rfl
  | y :: xs, u :: us, .cons r t, f => by
    rw [List.all_cons, Bool.and_eq_true] at f
    rw [List.any_cons, List.any_cons, eqU_of r f.1, any_eqU t f.2]
theorem mem_eqAt {A : Around} {s : Shared} {x : V} {v : Value} (rx : RelV x v) (fx : flatV x = true) : ∀ {xs : List V} {us : List Value}, Vals xs us → xs.all flatV = true → ∀ u ∈ us, SeqAt.EqAt A s u v (eqU x u)
  | _, _, .nil, _ => fun u hu => by cases hu
  | y :: xs, u :: us, .cons r t, f => fun u' hu => by
    rw [List.all_cons, Bool.and_eq_true] at f
    rcases List.mem_cons.mp hu with rfl | hu
    · rw [eqU_of r f.1]; exact eqAt_V r rx f.1 fx
    · exact mem_eqAt rx fx t f.2 u' hu
def inV (x : V) (xs : List V) : Bool := xs.any fun y => eqV y x
/-- x in a list or tuple of flat items -/
def rIn (K : PySem.W.Frag) (neg : Bool) : R2 := fun x y H Q => ∃ p xs, y = .ref p ∧ (SqL K H p xs ∨ SqT K H p xs) ∧ flatV x = true ∧ xs.all flatV = true ∧ Q (.bl (if neg then !inV x xs else inV x xs)) H
theorem op_in_seq : OpR X (compareOp .In) (rIn X.K false) := by
  intro pins s σ H x y v u Q I rx ry h
  obtain ⟨p, xs, rfl, hq, fx, fs, q⟩ := h
  cases ry
  rcases hq with hq | hq
  · obtain ⟨its, r, pl, hz⟩ := I.list hq
    refine SeqAt.in_listAt (eqU x) pl.isList (fun w hw => mem_eqAt rx fx r fs w (by simpa using hw)) ⟨.bl _, H, I, rfl, ?_⟩
    rw [show its.toArray.any (eqU x) = its.any (eqU x) by simp, any_eqU r fs]
    exact q
  · obtain ⟨its, r, pl, hz⟩ := I.tuple hq
    refine SeqAt.in_tupleAt (eqU x) pl (fun w hw => mem_eqAt rx fx r fs w (by simpa using hw)) ⟨.bl _, H, I, rfl, ?_⟩
    rw [show its.toArray.any (eqU x) = its.any (eqU x) by simp, any_eqU r fs]
    exact q
theorem op_notIn_seq : OpR X (compareOp .NotIn) (rIn X.K true) := by
  intro pins s σ H x y v u Q I rx ry h
  obtain ⟨p, xs, rfl, hq, fx, fs, q⟩ := h
  cases ry
  rcases hq with hq | hq
  · obtain ⟨its, r, pl, hz⟩ := I.list hq
    refine SeqAt.notIn_listAt (eqU x) pl.isList (fun w hw => mem_eqAt rx fx r fs w (by simpa using hw)) ⟨.bl _, H, I, rfl, ?_⟩
    rw [show its.toArray.any (eqU x) = its.any (eqU x) by simp, any_eqU r fs]
    exact q
  · obtain ⟨its, r, pl, hz⟩ := I.tuple hq
    refine SeqAt.notIn_tupleAt (eqU x) pl (fun w hw => mem_eqAt rx fx r fs w (by simpa using hw)) ⟨.bl _, H, I, rfl, ?_⟩
    rw [show its.toArray.any (eqU x) = its.any (eqU x) by simp, any_eqU r fs]
    exact q
theorem op_notIn_str : OpR X (compareOp .NotIn) (fun x y H Q => ∃ i j, x = .str i ∧ y = .str j ∧ Q (.bl (!(!(Builtin.Str.occurrences j i 0 j.length 1).isEmpty))) H) := by
  intro pins s σ H x y v u Q I rx ry h
  obtain ⟨i, j, rfl, rfl, q⟩ := h
  obtain ⟨t, rfl⟩ := rx
  obtain ⟨t', rfl⟩ := ry
  exact notIn_str ⟨.bl _, H, I, rfl, q⟩

/-! ### len, list(x), tuple(x) of any list or tuple that is read -/
theorem call_len_seq : CallR X (.builtin "len") (fun xs H Q => ∃ p ys, xs = [.ref p] ∧ (SqL X.K H p ys ∨ SqT X.K H p ys) ∧ Q (.int ys.length) H) := by
  intro pins s σ H xs us Q I r h
  obtain ⟨p, ys, rfl, hq, q⟩ := h
  obtain ⟨u, rfl, rx⟩ := vals1 r
  cases rx
  have hn := line63
  rcases hq with hq | hq
  · obtain ⟨its, r', pl, hz⟩ := I.list hq
    have hlen := r'.length
    exact Calls.call_len_list pl.isList (by simp only [List.size_toArray] <;> omega) ⟨.int ys.length, H, I.tok _, ⟨s.toks + 1, by rw [List.size_toArray, hlen]⟩, q⟩
  · obtain ⟨its, r', pl, hz⟩ := I.tuple hq
    have hlen := r'.length
    exact len_tuple pl (by simp only [List.size_toArray] <;> omega) ⟨.int ys.length, H, I.tok _, ⟨s.toks + 1, by rw [List.size_toArray, hlen]⟩, q⟩
theorem call_len_str : CallR X (.builtin "len") (fun xs H Q => ∃ z, xs = [.str z] ∧ z.length ≤ sizeLine ∧ Q (.int z.length) H) := by
  intro pins s σ H xs us Q I r h
  obtain ⟨z, rfl, hz, q⟩ := h
  obtain ⟨u, rfl, t, rfl⟩ := vals1 r
  have hn := line63
  exact len_str (by omega) ⟨.int z.length, H, I.tok _, ⟨_, rfl⟩, q⟩
theorem CallR.or {f : Value} {r r' : List V → Hp → VK → Prop} (h : CallR X f r) (h' : CallR X f r') : CallR X f (fun xs H Q => r xs H Q ∨ r' xs H Q) := by
  intro pins s σ H xs us Q I rs q
  rcases q with q | q
  · exact h pins s σ H xs us Q I rs q
  · exact h' pins s σ H xs us Q I rs q
theorem call_list_of : CallR X (.type "list") (fun xs H Q => ∃ p ys, xs = [.ref p] ∧ (SqL X.K H p ys ∨ SqT X.K H p ys) ∧ ∀ l, H l = none → Q (.ref l) (upd H l (.lst ys))) := by
  intro pins s σ H xs us Q I r h
  obtain ⟨p, ys, rfl, hq, q⟩ := h
  obtain ⟨u, rfl, rx⟩ := vals1 r
  cases rx
  have fin : ∀ (its : List Value), Vals ys its → ys.length ≤ sizeLine → ∀ (h' : Heap) (c' : Nat), (∀ b o', s.heap.get? b = some o' → h'.get? b = some o') →
      h'.get? s.heap.objs.size = some { cls := .type "list", dict := none, data := .seq its.toArray c', slots := #[] } → EP X pins σ Q (.ref s.heap.objs.size) { s with heap := h' } := fun its r' hz h' c' kp e =>
    ⟨.ref s.heap.objs.size, _, I.laid (t' := s.toks) kp (Nat.le_refl _) (show ObjOk X.prog X.w _ h' _ (.lst ys) from ⟨hz, its, c', r', e⟩), rfl, q _ (I.hok.fresh (Nat.le_refl _))⟩
  rcases hq with hq | hq
  · obtain ⟨its, r', pl, hz⟩ := I.list hq
    have hlen := r'.length
    obtain ⟨o, ho, hc, n, hd⟩ := pl.isList
    exact call_list_seq p (.inl rfl) ho hc hd (fun h' c' kp e => fin its r' hz h' c' kp e) (by simp only [List.size_toArray] <;> omega)
  · obtain ⟨its, r', pl, hz⟩ := I.tuple hq
    have hlen := r'.length
    obtain ⟨o, ho, hc, n, hd⟩ := pl
    exact call_list_seq p (.inr rfl) ho hc hd (fun h' c' kp e => fin its r' hz h' c' kp e) (by simp only [List.size_toArray] <;> omega)
theorem call_tuple_of : CallR X (.type "tuple") (fun xs H Q => ∃ p ys, xs = [.ref p] ∧ ((SqL X.K H p ys ∧ ∀ l, H l = none → Q (.ref l) (upd H l (.tup ys))) ∨ (SqT X.K H p ys ∧ Q (.ref p) H))) := by
  intro pins s σ H xs us Q I r h
  obtain ⟨p, ys, rfl, h⟩ := h
  obtain ⟨u, rfl, rx⟩ := vals1 r
  cases rx
  rcases h with ⟨hq, q⟩ | ⟨hq, q⟩
  · obtain ⟨its, r', pl, hz⟩ := I.list hq
    have hlen := r'.length
    refine call_tuple_list pl.isList (fun h' kp => ?_) (by simp only [List.size_toArray] <;> omega)
    have I1 : Inv X pins σ H { s with heap := h' } := I.kept (t' := s.toks) kp
    have I2 : Inv X pins σ (upd H h'.objs.size (.tup ys)) { s with heap := h'.push { cls := .type "tuple", data := .seq its.toArray } } :=
      I1.laid (t' := s.toks) (fun b o e => Heap.get?_push_of_some _ e) (Nat.le_refl _) (show ObjOk X.prog X.w _ _ _ (.tup ys) from ⟨hz, its, r', IsTup.new _ _⟩)
    exact ⟨.ref h'.objs.size, _, I2, rfl, q _ (I1.hok.fresh (Nat.le_refl _))⟩
  · obtain ⟨its, r', pl, hz⟩ := I.tuple hq
    exact call_tuple_same pl ⟨.ref p, H, I, rfl, q⟩

/-! ### the call of a builtin's method: o.m(..) -/
/-- the value is of that builtin type -/
def tyV (K : PySem.W.Frag) (T : String) (x : V) (H : Hp) : Prop := match x with
  | .str _ => T = "str"
  | .int _ => T = "int"
  | .ref p => (T = "list" ∧ ∃ xs, SqL K H p xs) ∨ (T = "tuple" ∧ ∃ o, K.lookup p = some o ∧ o.cls = .type "tuple" ∧ o.dict = none) ∨
      (T = "dict" ∧ ((∃ kvs, H p = some (.dK kvs)) ∨ ∃ kvs, H p = some (.dT kvs))) ∨ (T = "set" ∧ ∃ S n, H p = some (.set S n))
  | _ => False
theorem tyV_is {pins : List (Addr × Obj)} {σ : St} {H : Hp} {s : Shared} {T : String} {x : V} {v : Value} (I : Inv X pins σ H s) (r : RelV x v) (ty : tyV X.K T x H) :
    s.TypeIs v T ∧ ∀ a, v = .ref a → ∃ ob, s.heap.get? a = some ob ∧ ob.dict = none := by
  cases x with
  | str z =>
    obtain ⟨t, rfl⟩ := r
    cases (show T = "str" from ty)
    exact ⟨typeIs_str s z t, fun _ e => nomatch e⟩
  | int i =>
    obtain ⟨t, rfl⟩ := r
    cases (show T = "int" from ty)
    exact ⟨typeIs_int s i t, fun _ e => nomatch e⟩
  | ref p =>
    cases r
    rcases ty with ⟨rfl, xs, hq⟩ | ⟨rfl, o, hk, hc, hd⟩ | ⟨rfl, hk⟩ | ⟨rfl, S, n, hk⟩
    · obtain ⟨its, _, pl, _⟩ := I.list hq
      refine ⟨pl.isList.typeIs, fun a e => ?_⟩
      cases e
      obtain ⟨o, n, e, c, hd, _⟩ := pl
      exact ⟨o, e, hd⟩
    · refine ⟨⟨o, I.kIn p o hk, hc⟩, fun a e => ?_⟩
      cases e
      exact ⟨o, I.kIn _ o hk, hd⟩
    · have z : ∃ o, s.heap.get? p = some o ∧ o.ExactDict := by
        rcases hk with ⟨kvs, hk⟩ | ⟨kvs, hk⟩
        · obtain ⟨_, _, _, _, o, _, _, e, ex, _⟩ := I.hok p _ hk
          exact ⟨o, e, ex⟩
        · obtain ⟨_, _, _, _, o, _, _, e, ex, _⟩ := I.hok p _ hk
          exact ⟨o, e, ex⟩
      obtain ⟨o, e, ex⟩ := z
      refine ⟨⟨o, e, ex.1⟩, fun a e2 => ?_⟩
      cases e2
      exact ⟨o, e, ex.2.1⟩
    · obtain ⟨o, _, _, _, e, ex, _⟩ := I.hok p _ hk
      refine ⟨⟨o, e, ex.1⟩, fun a e2 => ?_⟩
      cases e2
      exact ⟨o, e, ex.2.1⟩
  | _ => exact False.elim ty
def tBM0 (K : PySem.W.Frag) (T : String) (r : V → List V → Hp → VK → Prop) (to : TE) : TE := fun σ H Q => to σ H fun x H1 => tyV K T x H1 ∧ r x [] H1 Q
def tBM (K : PySem.W.Frag) (T : String) (r : V → List V → Hp → VK → Prop) (to : TE) (t : TA) : TE := fun σ H Q => to σ H fun x H1 => tyV K T x H1 ∧ t σ H1 fun xs H2 => r x xs H2 Q
variable {o e : Expr} {es : List Expr} {to : TE} {t : TA} {name : Str} {apos cpos : Pos} {T id : String} {r : V → List V → Hp → VK → Prop}
theorem pe_bm0 (pa : PlainAttrs T) (slot : Slot T name id) (hty : typeOf (.builtin id) = pure (.type "method_descriptor")) (hm : MtR X id r) (ho : PE X o to)
    (hbase : attributeBase o name X.env (eval o X.env) = eval o X.env := by rfl) (hline : (apos.endLine == cpos.line) = true := by rfl) : PE X (.Call (.Attribute o name apos) [] [] cpos) (tBM0 X.K T r to) := by
  intro pins s σ H Q I h
  refine wpAny_Call_method0_late hbase hline (thn (ho pins s σ H _ I h) fun v s1 ⟨x, H1, I1, r1, ty, q1⟩ => ?_)
  obtain ⟨h1, h2⟩ := tyV_is I1 r1 ty
  exact ⟨T, id, pa, slot, hty, h1, h2, Calls.callWith_builtin rfl (PySem.evalArgs_none (hm pins s1 σ H1 x [] v [] Q I1 r1 .nil q1))⟩
theorem pe_bm (pa : PlainAttrs T) (slot : Slot T name id) (hty : typeOf (.builtin id) = pure (.type "method_descriptor")) (hm : MtR X id r) (ho : PE X o to) (ha : PA X (e :: es) t)
    (hbase : attributeBase o name X.env (eval o X.env) = eval o X.env := by rfl)
    (hfew : ((backTo cpos (starEach (e :: es) X.env)).all (fun x => !x.1) && (backToKw cpos (keywordEach [] X.env)).all (fun x => x.1.isSome)
      && decide ((e :: es).length + ([] : List Keyword).length + (if ([] : List Keyword).isEmpty then 0 else 1) < 30)) = true := by rfl)
    (hline : (apos.endLine == cpos.line) = true := by rfl) (hs : starEach (e :: es) X.env = (false, eval e X.env) :: starEach es X.env := by rfl) (hplain : (backTo cpos (starEach es X.env)).any (·.1) = false := by rfl) :
    PE X (.Call (.Attribute o name apos) (e :: es) [] cpos) (tBM X.K T r to t) := by
  intro pins s σ H Q I h
  refine wpAny_Call_method_late hbase hfew hline rfl (thn (ho pins s σ H _ I h) fun v s1 ⟨x, H1, I1, r1, ty, q1⟩ => ?_)
  obtain ⟨h1, h2⟩ := tyV_is I1 r1 ty
  refine ⟨T, id, pa, slot, hty, h1, h2, ?_⟩
  have hA := ha cpos pins s1 σ H1 _ I1 q1
  rw [hs] at hA ⊢
  refine Calls.callWith_builtin (by show (false || (backTo cpos (starEach es X.env)).any (·.1)) = false; rw [hplain] <;> rfl) (Calls.evalArgs_plain ?_)
  exact thn hA fun us s2 ⟨vs, H2, I2, r2, q2⟩ => hm pins s2 σ H2 x vs v us Q I2 r1 r2 q2
/- xs.append(e), list.index on a module's tuple .. are MtR facts of 06m -/
end
end L2

namespace L2
open PySem PySem.Spec PyProof.Rows

def MtM (X : Cx) (id : String) (r : V → List V → Hp → VK → Prop) : Prop :=
  ∀ (pins : List (Addr × Obj)) (s : Shared) (σ : St) (H : Hp) (x : V) (xs : List V) (v : Value) (us : List Value) (Q : VK), Inv X pins σ H s → RelV x v → Vals xs us → r x xs H Q →
    wpAny (model X.prog X.w) X.A (call (.builtin id) (v :: us)) (EP X pins σ Q) X.xe s

/-! ### lists of values -/
theorem Vals.one : ∀ {x : V} {us : List Value}, Vals [x] us → ∃ u, us = [u] ∧ RelV x u
  | _, _, .cons r .nil => ⟨_, rfl, r⟩
theorem Vals.two : ∀ {x y : V} {us : List Value}, Vals [x, y] us → ∃ u v, us = [u, v] ∧ RelV x u ∧ RelV y v
  | _, _, _, .cons r (.cons q .nil) => ⟨_, _, rfl, r, q⟩
theorem Vals.zero : ∀ {us : List Value}, Vals [] us → us = []
  | _, .nil => rfl
theorem Vals.dropLast {xs : List V} {us : List Value} (h : Vals xs us) : Vals xs.dropLast us.dropLast := by
  induction h with
  | nil => exact .nil
  | cons r t ih =>
    cases t with
    | nil => exact .nil
    | cons q t' => exact .cons r ih
theorem Vals.eraseIdx : ∀ {xs : List V} {us : List Value} (i : Nat), Vals xs us → Vals (xs.eraseIdx i) (us.eraseIdx i)
  | _, _, _, .nil => .nil
  | _, _, 0, .cons _ t => t
  | _, _, i + 1, .cons r t => .cons r (Vals.eraseIdx i t)
theorem Vals.reverse {xs : List V} {us : List Value} (h : Vals xs us) : Vals xs.reverse us.reverse := by
  induction h with
  | nil => exact .nil
  | cons r t ih => rw [List.reverse_cons, List.reverse_cons]; exact Vals.append ih (.cons r .nil)
theorem Vals.rep {xs : List V} {us : List Value} (h : Vals xs us) : ∀ k : Nat, Vals (List.replicate k xs).flatten (List.replicate k us).flatten
  | 0 => .nil
  | k + 1 => by
    rw [List.replicate_succ, List.replicate_succ, List.flatten_cons, List.flatten_cons]
    exact Vals.append h (Vals.rep h k)
theorem erase_last {α : Type} (l : List α) : l.eraseIdx (l.length - 1) = l.dropLast := by
  induction l with
  | nil => rfl
  | cons a r ih =>
    cases r with
    | nil => rfl
    | cons b r =>
      have e : (a :: b :: r).length - 1 = ((b :: r).length - 1) + 1 := by
        have h1 : (a :: b :: r).length = r.length + 2 := rfl
        have h2 : (b :: r).length = r.length + 1 := rfl
        omega
      rw [e, List.eraseIdx_cons_succ, ih]
      all_goals rfl
theorem len_erase {α : Type} : ∀ (l : List α) (i : Nat), (l.eraseIdx i).length ≤ l.length
  | [], _ => Nat.le_refl _
  | _ :: _, 0 => Nat.le_succ _
  | _ :: r, i + 1 => Nat.succ_le_succ (len_erase r i)
theorem foldl_rep (its : List Value) : ∀ (k : Nat) (acc : List Value),
    List.foldl (fun x1 x2 => x1 ++ x2) acc.toArray (List.replicate k its.toArray) = (acc ++ (List.replicate k its).flatten).toArray
  | 0, acc => by simp
  | k + 1, acc => by
    have e : acc.toArray ++ its.toArray = (acc ++ its).toArray := by simp
    have e2 : (acc ++ its) ++ (List.replicate k its).flatten = acc ++ (List.replicate (k + 1) its).flatten := by
      rw [List.replicate_succ, List.flatten_cons, List.append_assoc]
    rw [← e2, ← foldl_rep its k (acc ++ its), ← e, List.replicate_succ, List.foldl_cons]

section
variable {X : Cx} {pins : List (Addr × Obj)} {σ : St} {H : Hp} {s : Shared} {l b : Addr} {xs ys zs : List V}

/-! ### the two steps: a tracked list is rewritten, a new list is laid -/
theorem Inv.lset {its its' : List Value} {n : Nat} {f : Array Value → Array Value} {t' : Nat} (I : Inv X pins σ H s) (hH : H l = some (.lst xs))
    (e : s.heap.get? l = some { cls := .type "list", data := .seq its.toArray n }) (hf : f its.toArray = its'.toArray) (hv : Vals ys its') (hz : ys.length ≤ sizeLine) :
    Inv X pins σ (upd H l (.lst ys)) { s with heap := s.heap.update l (Obj.mapSeq f), toks := t' } := by
  have q := PySem.IsL.update e f
  rw [hf] at q
  refine I.write (x := l) (e := l) (by rw [hH]; exact trivial) (.inl rfl) (fun b' u hb hu => (Heap.get?_update_other s.heap (Obj.mapSeq f) (Ne.symm hb)).trans hu) ⟨_, q⟩ ?_
  exact ⟨hz, its', _, hv, q⟩
theorem Inv.lnew {its : List Value} {t' : Nat} (I : Inv X pins σ H s) (hv : Vals ys its) (hz : ys.length ≤ sizeLine) :
    Inv X pins σ (upd H s.heap.objs.size (.lst ys)) { s with heap := s.heap.push { cls := .type "list", data := .seq its.toArray }, toks := t' } :=
  I.laid (fun _ _ q => Heap.get?_push_of_some _ q) (Nat.le_refl _) ⟨hz, its, 0, hv, Heap.get?_push_size _ rfl⟩
theorem Inv.fresh (I : Inv X pins σ H s) : H s.heap.objs.size = none := I.hok.fresh (Nat.le_refl _)
theorem Inv.lstM (I : Inv X pins σ H s) (hH : H l = some (.lst xs)) : xs.length ≤ sizeLine ∧ ∃ (its : List Value) (n : Nat), Vals xs its ∧ xs.length = its.length ∧ s.heap.get? l = some { cls := .type "list", data := .seq its.toArray n } := by
  obtain ⟨z, its, n, r, e⟩ := I.hok l _ hH
  exact ⟨z, its, n, r, r.length, e⟩

theorem notLongL {n : Nat} (h : n ≤ sizeLine) : Builtin.List.listTooLong n = false := by
  unfold Builtin.List.listTooLong
  exact decide_eq_false (by omega)
end

section
variable {X : Cx}

/-! ### methods -/
def rAppend : V → List V → Hp → VK → Prop := fun x vs H Q => ∃ l xs y, x = .ref l ∧ vs = [y] ∧ H l = some (.lst xs) ∧ xs.length < sizeLine ∧ Q .non (upd H l (.lst (xs ++ [y])))
theorem mt_append : MtM X "list.append" rAppend := by
  intro pins s σ H x vs v us Q I rx rv h
  obtain ⟨l, xs, y, rfl, rfl, hH, hz, q⟩ := h
  cases rx
  obtain ⟨u, rfl, ru⟩ := rv.one
  obtain ⟨z, its, n, r, hl, e⟩ := I.lstM hH
  refine call_meets F.slot_list_append ⟨_, e, rfl⟩ F.entry_list_append (F.args_list_append_2 _ _) (PySem.list_append l its.toArray n u (by rw [List.size_toArray]; omega)) ⟨e, ?_⟩
  refine ⟨.non, _, I.lset (its' := its ++ [u]) hH e (by simp) (r.append (.cons ru .nil)) ?_, rfl, q⟩
  rw [List.length_append, List.length_singleton]
  omega

def rExtend : V → List V → Hp → VK → Prop := fun x vs H Q => ∃ l b xs zs, x = .ref l ∧ vs = [.ref b] ∧ H l = some (.lst xs) ∧ H b = some (.lst zs) ∧ xs.length + zs.length ≤ sizeLine ∧ Q .non (upd H l (.lst (xs ++ zs)))
theorem mt_extend : MtM X "list.extend" rExtend := by
  intro pins s σ H x vs v us Q I rx rv h
  obtain ⟨l, b, xs, zs, rfl, rfl, hH, hB, hz, q⟩ := h
  cases rx
  obtain ⟨u, rfl, ru⟩ := rv.one
  cases ru
  obtain ⟨z, its, n, r, hl, e⟩ := I.lstM hH
  obtain ⟨z2, its2, n2, r2, hl2, e2⟩ := I.lstM hB
  have hsz : its.toArray.size + its2.toArray.size ≤ sizeLine := by rw [List.size_toArray, List.size_toArray]; omega
  have hlong : ¬ (!its.toArray.isEmpty && Builtin.List.listTooLong (its.toArray.size + its2.toArray.size)) = true := by
    rw [notLongL hsz, Bool.and_false]
    exact Bool.false_ne_true
  refine call_meets F.slot_list_extend ⟨_, e, rfl⟩ F.entry_list_extend (F.args_list_extend_2 _ _)
    (AutoSeq1.list_extend_list_list_0 l its.toArray n b its2.toArray n2 hlong (by rw [List.size_toArray]; omega) (by omega)) ⟨e, e2, ?_⟩
  refine ⟨.non, _, I.lset (its' := its ++ its2) hH e (by simp) (r.append r2) ?_, rfl, q⟩
  rw [List.length_append]
  omega

def rPop : V → List V → Hp → VK → Prop := fun x vs H Q => ∃ l xs y, x = .ref l ∧ vs = [] ∧ H l = some (.lst xs) ∧ xs[xs.length - 1]? = some y ∧ Q y (upd H l (.lst xs.dropLast))
theorem mt_pop : MtM X "list.pop" rPop := by
  intro pins s σ H x vs v us Q I rx rv h
  obtain ⟨l, xs, y, rfl, rfl, hH, hy, q⟩ := h
  cases rx
  have hus := rv.zero
  subst hus
  obtain ⟨z, its, n, r, hl, e⟩ := I.lstM hH
  obtain ⟨u, hu, ru⟩ := r.get hy
  have hy' : its.toArray[its.toArray.size - 1]? = some u := by
    show its.toArray[its.length - 1]? = some u
    rw [← Array.getElem?_toList, ← hl]
    exact hu
  refine call_meets F.slot_list_pop ⟨_, e, rfl⟩ F.entry_list_pop (F.args_list_pop_1 _) (MeetsSeq.list_pop_last l its.toArray n u hy' (by rw [List.size_toArray]; omega)) ⟨e, ?_⟩
  refine ⟨y, _, I.lset (its' := its.dropLast) hH e ?_ r.dropLast ?_, ru, q⟩
  · show its.toArray.eraseIdxIfInBounds (its.toArray.size - 1) = its.dropLast.toArray
    rw [List.size_toArray, List.eraseIdxIfInBounds_toArray, erase_last]
  · rw [List.length_dropLast]
    omega

def rPopAt : V → List V → Hp → VK → Prop := fun x vs H Q => ∃ l xs i k y, x = .ref l ∧ vs = [.int i] ∧ H l = some (.lst xs) ∧ -(2 ^ 63) ≤ i ∧ i < 2 ^ 63 ∧ seqIndex? i xs.length = some k ∧ xs[k]? = some y ∧ Q y (upd H l (.lst (xs.eraseIdx k)))
theorem mt_popAt : MtM X "list.pop" rPopAt := by
  intro pins s σ H x vs v us Q I rx rv h
  obtain ⟨l, xs, i, k, y, rfl, rfl, hH, h1, h2, hk, hy, q⟩ := h
  cases rx
  obtain ⟨u, rfl, ru⟩ := rv.one
  obtain ⟨t, rfl⟩ := ru
  obtain ⟨z, its, n, r, hl, e⟩ := I.lstM hH
  obtain ⟨w, hw, rw'⟩ := r.get hy
  refine call_meets F.slot_list_pop ⟨_, e, rfl⟩ F.entry_list_pop (F.args_list_pop_2 _ _)
    (MeetsSeq.list_pop_at l its.toArray n i t k w (fitsIndex_both h1 h2) (by rw [List.size_toArray, ← hl]; exact hk) (by rw [← Array.getElem?_toList]; exact hw) (by rw [List.size_toArray]; omega)) ⟨e, ?_⟩
  refine ⟨y, _, I.lset (its' := its.eraseIdx k) hH e ?_ (r.eraseIdx k) ?_, rw', q⟩
  · show its.toArray.eraseIdxIfInBounds k = (its.eraseIdx k).toArray
    rw [List.eraseIdxIfInBounds_toArray]
  · have := len_erase xs k
    omega

def rReverse : V → List V → Hp → VK → Prop := fun x vs H Q => ∃ l xs, x = .ref l ∧ vs = [] ∧ H l = some (.lst xs) ∧ Q .non (upd H l (.lst xs.reverse))
theorem mt_reverse : MtM X "list.reverse" rReverse := by
  intro pins s σ H x vs v us Q I rx rv h
  obtain ⟨l, xs, rfl, rfl, hH, q⟩ := h
  cases rx
  have hus := rv.zero
  subst hus
  obtain ⟨z, its, n, r, hl, e⟩ := I.lstM hH
  refine call_meets F.slot_list_reverse ⟨_, e, rfl⟩ F.entry_list_reverse (F.args_list_reverse_1 _) (AutoSeq1.list_reverse_list_0 l its.toArray n (by rw [List.size_toArray]; omega)) ⟨e, ?_⟩
  refine ⟨.non, _, I.lset (its' := its.reverse) hH e (by simp) r.reverse ?_, rfl, q⟩
  rw [List.length_reverse]
  omega

def rClear : V → List V → Hp → VK → Prop := fun x vs H Q => ∃ l xs, x = .ref l ∧ vs = [] ∧ H l = some (.lst xs) ∧ Q .non (upd H l (.lst []))
theorem mt_clear : MtM X "list.clear" rClear := by
  intro pins s σ H x vs v us Q I rx rv h
  obtain ⟨l, xs, rfl, rfl, hH, q⟩ := h
  cases rx
  have hus := rv.zero
  subst hus
  obtain ⟨z, its, n, r, hl, e⟩ := I.lstM hH
  refine call_meets F.slot_list_clear ⟨_, e, rfl⟩ F.entry_list_clear (F.args_list_clear_1 _) (AutoSeq1.list_clear_list_0 l its.toArray n (by rw [List.size_toArray]; omega)) ⟨e, ?_⟩
  exact ⟨.non, _, I.lset (its' := []) (ys := []) hH e rfl .nil (Nat.zero_le _), rfl, q⟩

/-! ### list + list, list += list, list * int -/
def rCat : R2 := fun x y H Q => ∃ l b xs zs, x = .ref l ∧ y = .ref b ∧ H l = some (.lst xs) ∧ H b = some (.lst zs) ∧ xs.length + zs.length ≤ sizeLine ∧ ∀ p, H p = none → Q (.ref p) (upd H p (.lst (xs ++ zs)))
theorem op_cat : OpR X (binaryOp .Add) rCat := by
  intro pins s σ H x y v u Q I rx ry h
  obtain ⟨l, b, xs, zs, rfl, rfl, hH, hB, hz, q⟩ := h
  cases rx
  cases ry
  obtain ⟨z, its, n, r, hl, e⟩ := I.lstM hH
  obtain ⟨z2, its2, n2, r2, hl2, e2⟩ := I.lstM hB
  refine PySem.P.add_list e e2 ?_ (by rw [List.size_toArray, List.size_toArray]; omega)
  have ea : its.toArray ++ its2.toArray = (its ++ its2).toArray := by simp
  rw [ea]
  exact ⟨.ref _, _, I.lnew (t' := s.toks) (r.append r2) (by rw [List.length_append]; omega), rfl, q _ I.fresh⟩
/-- a list times an int (a negative one is nothing) -/
def rRep : R2 := fun x y H Q => ∃ l k xs, x = .ref l ∧ y = .int k ∧ H l = some (.lst xs) ∧ -(2 ^ 63) ≤ k ∧ k < 2 ^ 63 ∧ xs.length * k.toNat ≤ sizeLine ∧
  ∀ p, H p = none → Q (.ref p) (upd H p (.lst (List.replicate k.toNat xs).flatten))
theorem len_rep {α : Type} (xs : List α) (k : Nat) : (List.replicate k xs).flatten.length = k * xs.length := by
  induction k with
  | zero => simp
  | succ k ih => rw [List.replicate_succ, List.flatten_cons, List.length_append, ih, Nat.succ_mul, Nat.add_comm]
theorem op_rep : OpR X (binaryOp .Mult) rRep := by
  intro pins s σ H x y v u Q I rx ry h
  obtain ⟨l, k, xs, rfl, rfl, hH, h1, h2, hz, q⟩ := h
  cases rx
  obtain ⟨t, rfl⟩ := ry
  obtain ⟨z, its, n, r, hl, e⟩ := I.lstM hH
  have hlen : its.toArray.size * k.toNat ≤ sizeLine := by rw [List.size_toArray, ← hl]; exact hz
  have hcap : ¬ its.toArray.size * k.toNat > (2 ^ 63 - 1) / 8 := by
    have : (sizeLine : Nat) ≤ (2 ^ 63 - 1) / 8 := by decide
    omega
  have hfit : ¬ (!Builtin.List.listFitsIndex k) = true := by
    rw [fitsIndex_both h1 h2]
    exact Bool.false_ne_true
  have hlong : ¬ Builtin.List.listTooLong (its.toArray.size * k.toNat) = true := by
    rw [notLongL hlen]
    exact Bool.false_ne_true
  have hnew : List.foldl (fun x1 x2 => x1 ++ x2) #[] (List.replicate (if its.toArray.isEmpty = true then 0 else k.toNat) its.toArray) = (List.replicate k.toNat its).flatten.toArray := by
    have f0 : ∀ m : Nat, List.foldl (fun x1 x2 => x1 ++ x2) #[] (List.replicate m its.toArray) = (List.replicate m its).flatten.toArray := fun m => by
      have := foldl_rep its m []
      rw [List.nil_append] at this
      exact this
    rw [f0]
    cases its with
    | nil => simp
    | cons a r' => rw [if_neg (by simp)]
  refine wpAny_binaryOp_repeat_ref (T := "list") (U := "int") (by decide) ⟨_, e, rfl⟩ (fun s' => typeIs_int s' k t) noFill_list_mul F.fills_int_mul F.slot_int_rmul repeat_list F.slot_int_index.lookup
    (call_meets F.slot_int_rmul (typeIs_int s k t) F.entry_int_rmul (F.args_int_rmul_2 _ _) (int___rmul___int_list k t l its.toArray n)
      ⟨e, rfl, ⟨_, e, rfl⟩, call_meets F.slot_list_mul ⟨_, e, rfl⟩ F.entry_list_mul (F.args_list_mul_2 _ _) (AutoListH.list___mul___list_int_3 l its.toArray n k t hfit hcap hlong) ⟨e, ?_⟩⟩)
  rw [hnew]
  exact ⟨.ref _, _, I.lnew (t' := s.toks) (r.rep k.toNat) (by rw [len_rep, Nat.mul_comm]; exact hz), rfl, q _ I.fresh⟩

/-! ### del xs[i] -/
theorem del_list {pins : List (Addr × Obj)} {s : Shared} {σ : St} {H : Hp} {l : Addr} {xs : List V} {i : Int} {t : Tok} {k : Nat} {Q : Unit → Shared → Prop} (I : Inv X pins σ H s) (hH : H l = some (.lst xs))
    (h1 : -(2 ^ 63) ≤ i) (h2 : i < 2 ^ 63) (hk : seqIndex? i xs.length = some k) (h : ∀ s', Inv X pins σ (upd H l (.lst (xs.eraseIdx k))) s' → Q () s') :
    wpAny (model X.prog X.w) X.A (delItem (.ref l) (.int i t)) Q X.xe s := by
  obtain ⟨z, its, n, r, hl, e⟩ := I.lstM hH
  refine PySem.P.delItem_list (k := k) e (fitsIndex_both h1 h2) (by rw [List.size_toArray, ← hl]; exact hk) (h _ ?_) (by rw [List.size_toArray]; omega)
  refine I.lset (its' := its.eraseIdx k) (t' := s.toks) hH e ?_ (r.eraseIdx k) ?_
  · show its.toArray.eraseIdxIfInBounds k = (its.eraseIdx k).toArray
    rw [List.eraseIdxIfInBounds_toArray]
  · have := len_erase xs k
    omega
end

/-! ### xs[a:b] = ys -/
section
variable {prog : Program} {w : World} {A : Around} {E : Value → Shared → Prop} {s : Shared}
theorem splice_eq (its its2 : List Value) (a c : Nat) : its.toArray.extract 0 a ++ its2.toArray ++ its.toArray.extract c its.toArray.size = (its.take a ++ its2 ++ its.drop c).toArray := by
  apply Array.toList_inj.mp
  first
    | (simp
       exact List.take_of_length_le (by simp))
    | simp [List.take_of_length_le]
    | simp
theorem bounds_run {a c n : Nat} (hac : a ≤ c) (hc : c ≤ n) : sliceBounds (some (a : Int)) (some (c : Int)) none n = ((a : Int), (c : Int), 1) := by
  simp only [sliceBounds, Option.getD_none]
  have h1 : ¬ ((a : Int) < 0) := by omega
  have h2 : ¬ ((c : Int) < 0) := by omega
  simp only [h1, h2, if_false, show (1 : Int) > 0 by decide, if_true]
  congr 1
  · omega
  · congr 1; omega
set_option maxRecDepth 100000 in
/-- list.__setitem__ with a slice of step one and another list -/
theorem setItem_slice {l b sl : Addr} {items new : Array Value} {n n2 : Nat} {vl vu : Value} {a c : Nat} {Q : Unit → Shared → Prop}
    (e : s.heap.get? l = some { cls := .type "list", data := .seq items n }) (e2 : s.heap.get? b = some { cls := .type "list", data := .seq new n2 }) (hne : l ≠ b)
    (hs : s.heap.IsSliceOf sl vl vu .none) (pl : IsPart vl (some (a : Int))) (pu : IsPart vu (some (c : Int))) (hac : a ≤ c) (hc : c ≤ items.size)
    (hsz : items.size + new.size ≤ sizeLine) (h : Q () { s with heap := s.heap.update l (Obj.mapSeq fun xs => xs.extract 0 a ++ new ++ xs.extract c xs.size) }) :
    wpAny (model prog w) A (setItem (.ref l) (.ref sl) (.ref b)) Q E s := by
  have hl : s.heap.IsList l items := PySem.IsL.isList e
  have hb : s.heap.IsList b new := PySem.IsL.isList e2
  obtain ⟨os, hos, hcs, hds⟩ := id hs
  have hTs : s.TypeIs (.ref sl) "slice" := ⟨os, hos, hcs⟩
  have hstep : ¬ ((rawPart none == rawInt 0) = true) := Bool.false_ne_true
  have hsame : Builtin.List.listSameRef (.ref l) (.ref b) = false := by
    unfold Builtin.List.listSameRef
    exact beq_eq_false_iff_ne.mpr hne
  have hmax : (max (a : Int) (c : Int)).toNat = c := by omega
  have hz' : ((fun xs : Array Value => xs.extract 0 a ++ new ++ xs.extract c xs.size) items).size ≤ sizeLine + 1 := by
    simp only [Array.size_append, Array.size_extract]
    omega
  unfold setItem
  try with_reducible refine wpAny_holding ?_
  first | refine wpAny_bind (wpAny_pure ?_) | skip
  refine wpAny_bind (wpAny_sequenceKey hl.typeIs (by decide) ?_)
  refine wpAny_bind (wpAny_callSpecial?_slot (name := Str.ofString "__setitem__") hl.typeIs slot_list_setitem
    (wpAny_call_entry slot_list_setitem hl.typeIs entry_list_setitem ?_ (args_list_setitem _ _ _)))
  show wpAny _ _ (Builtin.List.listSubscript? (.ref sl) >>= _) _ _ s
  refine wpAny_bind ?_
  unfold Builtin.List.listSubscript?
  refine wpAny_bind (wpAny_specialOf hTs slice_no_index ?_)
  simp only [Option.isNone_none, if_true]
  refine wpAny_pure ?_
  show wpAny _ _ (typeOf (.ref sl) >>= _) _ _ s
  refine wpAny_bind (wpAny_typeOf hTs ?_)
  first
    | rw [if_neg (by decide)]
    | refine PySem.W.KFB.if_not (by decide) ?_
  rw [listSliceParts_eq]
  refine wpAny_bind (wpAny_bind (wpAny_field hos hds (x := .none) rfl (wpAny_bind (wpAny_listPart .none ?_))))
  rw [if_neg hstep]
  refine wpAny_bind (wpAny_field hos hds (x := vl) rfl (wpAny_bind (wpAny_listPart pl ?_)))
  refine wpAny_bind (wpAny_field hos hds (x := vu) rfl (wpAny_bind (wpAny_listPart pu (wpAny_pure ?_))))
  first
    | simp only [hsame, Bool.false_eq_true, if_false]
    | refine PySem.W.KFB.if_not hsame ?_
    | (dsimp only
       rw [if_neg (by rw [hsame]; exact Bool.false_ne_true)])
  refine wpAny_bind (m := Builtin.List.listAllItems (.ref b) "must assign iterable to extended slice") ?_
  unfold Builtin.List.listAllItems
  refine wpAny_bind (wpAny_typeOf hb.typeIs ?_)
  first
    | refine PySem.W.KFB.if_so (by decide) ?_
    | rw [if_pos (by decide)]
    | simp only [beq_self_eq_true, Bool.true_or, if_true]
  unfold Builtin.List.listItems
  refine wpAny_bind (wpAny_seqItems e2 rfl (wpAny_pure ?_))
  refine wpAny_bind (wpAny_bind (wpAny_seqItems e rfl (wpAny_pure ?_)))
  refine wpAny_bind (wpAny_of_eq ((sliceIndices_raw (some (a : Int)) (some (c : Int)) none items.size (by simp)).trans (congrArg (pure : Int × Int × Int → Sem (Int × Int × Int)) (bounds_run hac hc))) ?_)
  show wpAny _ _ (if ((1 : Int) == 1) = true then _ else _) _ _ s
  rw [if_pos (by decide)]
  refine wpAny_bind (wpAny_rule ?_)
  first
    | simp only [notLongL hsz, Bool.false_eq_true, if_false]
    | refine PySem.W.KFB.if_not (notLongL hsz) ?_
  first | refine wpAny_bind (wpAny_pure ?_) | skip
  show wpAny _ _ (updateSeq l (fun xs => xs.extract 0 ((a : Int)).toNat ++ new ++ xs.extract (max (a : Int) (c : Int)).toNat xs.size) >>= _) _ _ s
  rw [hmax, Int.toNat_natCast]
  refine wpAny_bind (wpAny_updateSeq (hz := Nat.le_trans (Nat.le_add_right _ _) hsz) (_hz' := hz') e rfl ?_)
  refine wpAny_bind (wpAny_letGo ?_)
  first
    | exact wpAny_bind (wpAny_pure (wpAny_pure ⟨.none, rfl, wpAny_pure h⟩))
    | exact wpAny_pure ⟨.none, rfl, wpAny_pure h⟩
end

section
variable {X : Cx}
/-- xs[a:c] = ys of another list, at the value level: sl is the slice object that was just made -/
theorem set_slice {pins : List (Addr × Obj)} {s : Shared} {σ : St} {H : Hp} {l b sl : Addr} {xs ys : List V} {a c : Int} {vl vu : Value} {Q : Unit → Shared → Prop} (I : Inv X pins σ H s)
    (hH : H l = some (.lst xs)) (hB : H b = some (.lst ys)) (hne : l ≠ b) (hs : s.heap.IsSliceOf sl vl vu .none) (ra : RelV (.int a) vl) (rc : RelV (.int c) vu) (h0 : 0 ≤ a) (hac : a ≤ c) (hc : c ≤ xs.length)
    (hz : xs.length + ys.length ≤ sizeLine) (h : ∀ s', Inv X pins σ (upd H l (.lst (xs.take a.toNat ++ ys ++ xs.drop c.toNat))) s' → Q () s') :
    wpAny (model X.prog X.w) X.A (setItem (.ref l) (.ref sl) (.ref b)) Q X.xe s := by
  obtain ⟨ta, rfl⟩ := ra
  obtain ⟨tc, rfl⟩ := rc
  obtain ⟨z, its, n, r, hl, e⟩ := I.lstM hH
  obtain ⟨z2, its2, n2, r2, hl2, e2⟩ := I.lstM hB
  obtain ⟨a', rfl⟩ := Int.eq_ofNat_of_zero_le h0
  obtain ⟨c', rfl⟩ := Int.eq_ofNat_of_zero_le (Int.le_trans h0 hac)
  simp only [Int.toNat_natCast] at h
  refine setItem_slice (a := a') (c := c') e e2 hne hs (.int _ _) (.int _ _) (by omega) (by rw [List.size_toArray]; omega) (by rw [List.size_toArray, List.size_toArray]; omega) (h _ ?_)
  refine I.lset (its' := its.take a' ++ its2 ++ its.drop c') (t' := s.toks) hH e ?_ (Vals.append (Vals.append (r.take _) r2) (r.drop _)) ?_
  · exact splice_eq its its2 a' c'
  · rw [List.length_append, List.length_append, List.length_take, List.length_drop]
    omega
end
end L2

namespace Att
open PySem PySem.W PySem.Calls PyProof.Rows

/-! ### the script -/
theorem ints_of_wellAll {P : Params} {h : Heap} : ∀ (ns : List Int) (vs : List Value), WellAll P h vs (ns.map WData.int) → IntsAre vs ns := by
  intro ns
  induction ns with
  | nil =>
    intro vs w
    rw [List.map_nil] at w
    cases w
    exact .nil
  | cons n ns ih =>
    intro vs w
    rw [List.map_cons] at w
    cases w with
    | cons a b =>
      cases a
      exact .cons _ _ (ih _ b)

theorem script_of {l : OpenLaw} {n : Nat} (hn : l.most = some n) {P : Params} {h : Heap} {args : List WData} {vals : List Value}
    (hpre : l.row.toRowW.claim.pre args = true) (hwl : WellAll P h vals args) :
    ∃ a vs ns, vals = [Value.ref a] ∧ args = [WData.list (ns.map WData.int)] ∧ h.get? a = some { cls := .type "list", data := .seq vs.toArray } ∧ IntsAre vs ns ∧ ns.length ≤ n := by
  have hsh : WShape.hasAll [] args [.list .int] = true := (pre_splitW hpre).1
  have hc : l.pre.holds [] { args := args } = true := (pre_splitW hpre).2
  obtain ⟨d, r, rfl, h1, h2⟩ := hasAllW_cons hsh
  obtain rfl := hasAllW_nil h2
  obtain ⟨xs, rfl, h3⟩ := hasW_list h1
  obtain ⟨ns, rfl⟩ := items_int h3
  have hlen : ns.length ≤ n := by
    unfold OpenLaw.pre at hc
    have h4 : (WTm.not (.lt (.lit (.int (n : Int))) (.len (.arg 0)))).holds [] { args := [.list (ns.map .int)] } = true := by
      have h4 := (holds_andW hc).1
      rw [hn] at h4
      exact h4
    have h5 := condW_of h4 (w_not (w_lt w_lit (w_len_list (w_arg rfl))))
    rw [List.length_map] at h5
    refine Nat.le_of_not_lt fun q => ?_
    have q' : (n : Int) < ((ns.length : Nat) : Int) := by omega
    first
      | (rw [decide_eq_true q'] at h5; exact absurd h5 (by decide))
      | (simp at h5; omega)
  cases hwl with
  | cons w1 w2 =>
    cases w2
    cases w1 with
    | list ho hall => exact ⟨_, _, ns, rfl, rfl, ho, ints_of_wellAll ns _ hall, hlen⟩

theorem post_true (l : OpenLaw) (args : List WData) : l.row.toRowW.claim.post args (.bool true) args = true :=
  postW_of (r := l.row.toRowW) (X := (true == true))
    (show WShape.has [] (.bool true) .bool = true by first | rfl | decide | simp [WShape.has, WShape.arms, WShape.armsAll])
    (show (WTm.eq .res (.lit (.bool true))).value [] { args := args, res := some (.bool true), after := args } = some (.bool (true == true)) from w_eq_bool (w_res rfl) w_lit) rfl

/-! ### the attachment: holds_open's last premise (the goal 'hc' behind k_head) from a wpAny of the law's body -/
theorem attach {l : OpenLaw} {n : Nat} {q : Program} {loose : List Str} {XP : (Str → Option Value) → Heap → Prop} {YP : World → Heap → Prop} {d : DefRec} {x : Str}
    (hn : l.most = some n) (hdf : d.params.defaults = [])
    (hbind : ∀ pm cd doc v : Value, bindArgs (docDef d.name d.params d.body d.scope pm cd doc) ⟨[v], []⟩ = pure [(x, v)])
    (hx : d.scope.names.lookup x = some .local ∨ d.scope.names.lookup x = some .cell)
    (hk : d.scope.kind = .function) (hco : d.scope.isCoroutine = false) (hgen : d.scope.isGenerator = false)
    (body : ∀ (w : World) (s₀ s₁ s : Shared) (mg mb : Str → Option Value) (fa : Addr) (o : Obj) (pm cd doc : Value) (a : Addr) (vs : List Value) (ns : List Int),
      Ground q loose [] XP w s₀ mg mb s₁.heap → YP w s₁.heap →
      s₁.heap.get? fa = some o → o.data = .func (docDef d.name d.params d.body d.scope pm cd doc) → s₁.heap.CodeRec cd d.name → mg d.name = some (.ref fa) →
      s₁.heap.get? a = some { cls := .type "list", data := .seq vs.toArray } → IntsAre vs ns → ns.length ≤ n →
      s.gens = #[] → s.os = s₁.os →
      Fr s₁.heap s₁.heap.objs.size s.heap (bindL (envOfC d.name d.scope s₁.heap.objs.size fa cd).kindOf [(x, .ref a)] fun _ => none) →
      Cl s₁.heap.objs.size (cellsFrom (s₁.heap.objs.size + 1) d.scope.names []) s.heap (bindC (envOfC d.name d.scope s₁.heap.objs.size fa cd).kindOf [(x, .ref a)] fun _ => none) →
      wpAny (model l.prog w) (callerA.deeper (envOfC d.name d.scope s₁.heap.objs.size fa cd)) (execs d.body (envOfC d.name d.scope s₁.heap.objs.size fa cd))
        (fun f s' => f = .ret (.bool true) ∧ OldK s₁.heap s'.heap ∧ s'.os = s₁.os ∧ AllBare s'.gens) (fun _ _ => False) s) :
    WalkO q loose XP YP l.row.toRowW d [] (fun f vs => PySem.call f vs) := by
  intro w s₀ s₁ mg mb G Y fa o pm cd doc dV kV ho hd hcd hD hmg hg args vals as hpre hlay hrd hwl hlo
  obtain rfl : dV = .none := Dflts.none hD hdf
  obtain rfl : kV = .none := Dflts.noKw hD
  obtain ⟨a, vs, ns, rfl, rfl, hobj, hints, hlen⟩ := script_of hn hpre hwl
  refine enter_call ?_
  refine call_cells_ret (o := o) (by rw [depth_caller]; decide) ho (fd_plain hd) G.T.nolimit hcd (hbind pm cd doc (.ref a)) (fun y hy => ?_) (fun h₁ tk F X => ?_) hco hgen hk
  · obtain rfl : y = (x, Value.ref a) := List.mem_singleton.mp hy
    rcases hx with e | e
    · exact .inl e
    · exact .inr ⟨e, cellsFrom_some _ _ _ (.inl e)⟩
  · refine wpAny_mono (body w s₀ s₁ { s₁ with heap := h₁, toks := tk } mg mb fa o pm cd doc a vs ns G Y ho (fd_plain hd) hcd hmg hobj hints hlen hg rfl F X) (fun f s' hq => ?_) (fun _ _ hq => hq)
    obtain ⟨rfl, h2, h3, h4⟩ := hq
    exact ⟨.inl ⟨.bool true, .bool true, [], rfl, fun _ => rfl, .bool true, post_true l _, fun _ => ⟨List.Pairwise.nil, fun _ hm => (nomatch hm)⟩⟩, h2, h3, h4⟩

/-- the same from a codeAny of the CALL (for a layer whose function contracts speak of calls) -/
theorem attach_call {l : OpenLaw} {n : Nat} {q : Program} {loose : List Str} {XP : (Str → Option Value) → Heap → Prop} {YP : World → Heap → Prop} {d : DefRec}
    (hn : l.most = some n) (hdf : d.params.defaults = [])
    (call : ∀ (w : World) (s₀ s₁ : Shared) (mg mb : Str → Option Value) (fa : Addr) (o : Obj) (pm cd doc : Value) (a : Addr) (vs : List Value) (ns : List Int),
      Ground q loose [] XP w s₀ mg mb s₁.heap → YP w s₁.heap →
      s₁.heap.get? fa = some o → o.data = .func (docDef d.name d.params d.body d.scope pm cd doc) → s₁.heap.CodeRec cd d.name → mg d.name = some (.ref fa) →
      s₁.heap.get? a = some { cls := .type "list", data := .seq vs.toArray } → IntsAre vs ns → ns.length ≤ n → s₁.gens = #[] →
      codeAny (model l.prog w) callerA (.call (.ref fa) ⟨[.ref a], []⟩) (fun r s' => r = .ok (.ret (.bool true)) ∧ OldK s₁.heap s'.heap ∧ s'.os = s₁.os ∧ AllBare s'.gens) s₁) :
    WalkO q loose XP YP l.row.toRowW d [] (fun f vs => PySem.call f vs) := by
  intro w s₀ s₁ mg mb G Y fa o pm cd doc dV kV ho hd hcd hD hmg hg args vals as hpre hlay hrd hwl hlo
  obtain rfl : dV = .none := Dflts.none hD hdf
  obtain rfl : kV = .none := Dflts.noKw hD
  obtain ⟨a, vs, ns, rfl, rfl, hobj, hints, hlen⟩ := script_of hn hpre hwl
  refine enter_call (codeAny_mono (call w s₀ s₁ mg mb fa o pm cd doc a vs ns G Y ho (fd_plain hd) hcd hmg hobj hints hlen hg) fun r s' hq => ?_)
  obtain ⟨rfl, h2, h3, h4⟩ := hq
  exact ⟨.inl ⟨.bool true, .bool true, [], rfl, fun _ => rfl, .bool true, post_true l _, fun _ => ⟨List.Pairwise.nil, fun _ hm => (nomatch hm)⟩⟩, h2, h3, h4⟩

/-- the same where the top left finished generators (o_head chose holds_openN): nothing may have changed at all and no generator may be left -/
theorem attachN {l : OpenLaw} {n : Nat} {q : Program} {loose : List Str} {XP : (Str → Option Value) → Heap → Prop} {YP : World → Heap → Prop} {d : DefRec} {x : Str}
    (hn : l.most = some n) (hdf : d.params.defaults = [])
    (hbind : ∀ pm cd doc v : Value, bindArgs (docDef d.name d.params d.body d.scope pm cd doc) ⟨[v], []⟩ = pure [(x, v)])
    (hx : d.scope.names.lookup x = some .local ∨ d.scope.names.lookup x = some .cell)
    (hk : d.scope.kind = .function) (hco : d.scope.isCoroutine = false) (hgen : d.scope.isGenerator = false)
    (body : ∀ (w : World) (s₀ s₁ s : Shared) (mg mb : Str → Option Value) (fa : Addr) (o : Obj) (pm cd doc : Value) (a : Addr) (vs : List Value) (ns : List Int),
      Ground q loose [] XP w s₀ mg mb s₁.heap → YP w s₁.heap →
      s₁.heap.get? fa = some o → o.data = .func (docDef d.name d.params d.body d.scope pm cd doc) → s₁.heap.CodeRec cd d.name → mg d.name = some (.ref fa) →
      s₁.heap.get? a = some { cls := .type "list", data := .seq vs.toArray } → IntsAre vs ns → ns.length ≤ n →
      s.gens = #[] → s.os = s₁.os →
      Fr s₁.heap s₁.heap.objs.size s.heap (bindL (envOfC d.name d.scope s₁.heap.objs.size fa cd).kindOf [(x, .ref a)] fun _ => none) →
      Cl s₁.heap.objs.size (cellsFrom (s₁.heap.objs.size + 1) d.scope.names []) s.heap (bindC (envOfC d.name d.scope s₁.heap.objs.size fa cd).kindOf [(x, .ref a)] fun _ => none) →
      wpAny (model l.prog w) (callerA.deeper (envOfC d.name d.scope s₁.heap.objs.size fa cd)) (execs d.body (envOfC d.name d.scope s₁.heap.objs.size fa cd))
        (fun f s' => f = .ret (.bool true) ∧ (∀ b o, s₁.heap.get? b = some o → s'.heap.get? b = some o) ∧ s'.os = s₁.os ∧ s'.gens = #[]) (fun _ _ => False) s) :
    WalkN q loose XP YP l.row.toRowW d [] (fun f vs => PySem.call f vs) := by
  intro w s₀ s₁ mg mb G Y fa o pm cd doc dV kV ho hd hcd hD hmg hg args vals as hpre hlay hrd hwl hlo
  obtain rfl : dV = .none := Dflts.none hD hdf
  obtain rfl : kV = .none := Dflts.noKw hD
  obtain ⟨a, vs, ns, rfl, rfl, hobj, hints, hlen⟩ := script_of hn hpre hwl
  refine enter_callW ?_
  refine call_cells_ret (o := o) (by rw [depth_caller]; decide) ho (fd_plain hd) G.T.nolimit hcd (hbind pm cd doc (.ref a)) (fun y hy => ?_) (fun h₁ tk F X => ?_) hco hgen hk
  · obtain rfl : y = (x, Value.ref a) := List.mem_singleton.mp hy
    rcases hx with e | e
    · exact .inl e
    · exact .inr ⟨e, cellsFrom_some _ _ _ (.inl e)⟩
  · refine wpAny_mono (body w s₀ s₁ { s₁ with heap := h₁, toks := tk } mg mb fa o pm cd doc a vs ns G Y ho (fd_plain hd) hcd hmg hobj hints hlen hg rfl F X) (fun f s' hq => ?_) (fun _ _ hq => hq)
    obtain ⟨rfl, h2, h3, h4⟩ := hq
    exact ⟨.inl ⟨.bool true, .bool true, [], rfl, fun _ => rfl, .bool true, post_true l _, fun _ => ⟨List.Pairwise.nil, fun _ hm => (nomatch hm)⟩⟩, h2, h3, h4⟩

/-! ### rules over ANY heap (no ledger) from facts about the written part K: the library's own take a ledger (News) for what they write -/
section
variable {prog : Program} {w : World} {A : Around} {E : Value → Shared → Prop} {s : Shared} {K : Frag}

/-- a def of the module, or a method (qual 'C.m'), entered: the frame is the next address; cells behind it -/
theorem call_fn {R : Result → Shared → Prop} {name qual : Str} {params : Arguments} {body : List Stmt} {scope : Scope} {dV kV doc pm cdv ct oc : Value} {an od : Option Addr} {osl : Array (Option Value)} {f : Addr} {args : Args} {binds : List (Str × Value)}
    (X : K.In s.heap) (hlim : s.heap.NoLimit) (ho : K.lookup f = some ⟨oc, od, .func (fnOf name qual params body scope dV kV doc pm an cdv ct), osl⟩) (hcd : codeIn K cdv qual = true) (hroom : A.depth < recursionLimit)
    (hbind : BindsTo s (fnOf name qual params body scope dV kV doc pm an cdv ct) args binds)
    (hkind : (binds.all fun y => scope.names.lookup y.1 == some .local || scope.names.lookup y.1 == some .cell) = true)
    (h : ∀ s₁, InCallC s s.heap.objs.size (bindL (envOfC qual scope s.heap.objs.size f cdv).kindOf binds fun _ => none) (cellsFrom (s.heap.objs.size + 1) scope.names [])
        (bindC (envOfC qual scope s.heap.objs.size f cdv).kindOf binds fun _ => none) s₁ →
      wpAny (model prog w) (A.deeper (envOfC qual scope s.heap.objs.size f cdv)) (execs body (envOfC qual scope s.heap.objs.size f cdv))
        (fun fl s' => R (.ok (.ret (match fl with | .ret v => v | _ => .none))) s')
        (fun e s' => wpAny (model prog w) (A.deeper (envOfC qual scope s.heap.objs.size f cdv)) (leaving (envOfC qual scope s.heap.objs.size f cdv) e) (fun _ s'' => R (.error e) s'') (fun e' s'' => R (.error e') s'') s') s₁)
    (hco : scope.isCoroutine = false) (hgen : scope.isGenerator = false) (hk : scope.kind = .function) : codeAny (model prog w) A (.call (.ref f) args) R s := by
  refine codeAny_call_function hroom (X _ _ ho) rfl hco hgen rfl (codeRec_of X hcd) (hbind _ _ _ _ ?_)
  refine wpAny_newFunctionEnv_cells hk (kindsX hkind _) fun env he s₁ x => ?_
  subst he
  exact ⟨hlim.keeps x.toInCall.keep, codeAny_func (h s₁ x)⟩

/-- C(..): dict at size, instance at size + 1, then __init__ -/
theorem make_obj {R : Result → Shared → Prop} {C fI : Addr} {rest : List Value} {kw : List (Str × Value)}
    (X : K.In s.heap) (hm : makesIn K C = true) (hi : findIn K (.ref C) "__init__" = some (some (.ref fI))) (hf : isFn K (.ref fI) = true)
    (h : codeAny (model prog w) (A.under (.builtin "type.__call__" ⟨.ref C :: rest, kw⟩)) (.call (.ref fI) ⟨.ref (s.heap.objs.size + 1) :: rest, kw⟩) (InitBack (s.heap.objs.size + 1) R)
      { s with heap := (s.heap.push emptyDict).push (instObj C s.heap.objs.size) }) : codeAny (model prog w) A (.call (.ref C) ⟨rest, kw⟩) R s := by
  obtain ⟨hh, g, d, t, os⟩ := s
  exact make_core (makes_of X hm) (looks_findIn X hi) (fun self => bind_fn X self (beq_iff_eq.mp hf)) (.inl rfl) h

/-- x.name where the instance's dict holds the name and the class does not -/
theorem get_field {x C : Addr} {ox : Obj} {es : List DictEntry} {n : Nat} {name : Str} {expr : Bool} {v : Value} {Q : Value → Shared → Prop}
    (X : K.In s.heap) (I : PySem.W.InstAt s.heap x ox C (some (dictOf es n))) (hg : plainGet K C name = true) (hh : hasDictIn K C = true) (ha : findIn K (.ref C) name = some none)
    (hl : getL name es = some (some v)) (hv : handedIn v = true) (h : Q v { s with toks := s.toks + 1 }) : wpAny (model prog w) A (getAttr (.ref x) name expr) Q E s :=
  get_value X I (plainGet_of hg).1 (findObj_own hh ha rfl hl) hv h

/-- x.m(..): the method found in the class -/
theorem get_method {x C f : Addr} {ox : Obj} {es : List DictEntry} {n : Nat} {name : Str} {pl : Sem Bool} {Q : Value × List Value → Shared → Prop}
    (X : K.In s.heap) (I : PySem.W.InstAt s.heap x ox C (some (dictOf es n))) (hg : plainGet K C name = true) (hf : findIn K (.ref C) name = some (some (.ref f))) (ht : isFn K (.ref f) = true)
    (hl : getL name es = some none) (h : Q (.ref f, [.ref x]) s) : wpAny (model prog w) A (getMethod (.ref x) name pl) Q E s :=
  method_fn X I (plainGet_of hg).1 (plainGet_of hg).2 hf (beq_iff_eq.mp ht) (by show (lookIn name (dictOf es n)).map _ = _; rw [lookIn_dict, hl]; rfl) h

/-! the whole heap as the ledger: makes every rule that writes through a ledger a rule over any heap -/
def noObjs (h : Heap) : Heap := { h with objs := #[] }
theorem noObjs_get (h : Heap) (b : Addr) : (noObjs h).get? b = none := by
  cases e : (noObjs h).get? b with
  | none => rfl
  | some o => exact absurd (Heap.lt_size e) (Nat.not_lt_zero _)
def ledger (h : Heap) (L d : Addr) : List (Addr × Obj) := (List.range h.objs.size).filterMap fun a => if a = L ∨ a = d then none else (h.get? a).map fun o => (a, o)
theorem mem_ledger {h : Heap} {L d a : Addr} {o : Obj} : (a, o) ∈ ledger h L d ↔ a ≠ L ∧ a ≠ d ∧ h.get? a = some o := by
  unfold ledger
  rw [List.mem_filterMap]
  constructor
  · rintro ⟨b, _, e⟩
    split at e
    · cases e
    · rename_i hb
      obtain ⟨o', ho, e'⟩ := Option.map_eq_some_iff.mp e
      cases e'
      exact ⟨fun q => hb (.inl q), fun q => hb (.inr q), ho⟩
  · rintro ⟨n1, n2, ho⟩
    refine ⟨a, List.mem_range.mpr (Heap.lt_size ho), ?_⟩
    rw [if_neg (show ¬ (a = L ∨ a = d) from fun q => q.elim n1 n2), ho] <;> rfl
theorem news_ledger {h : Heap} {L d : Addr} {od : Obj} (hne : d ≠ L) (ho : h.get? d = some od) : News (noObjs h) L h ([] ++ (d, od) :: ledger h L d) := by
  rintro ⟨a, o⟩ hp
  rcases List.mem_cons.mp hp with e | hp
  · cases e
    exact ⟨ho, hne, noObjs_get _ _⟩
  · obtain ⟨n1, n2, e⟩ := mem_ledger.mp hp
    exact ⟨e, n1, noObjs_get _ _⟩
theorem fr_all {h : Heap} {L : Addr} {m : Str → Option Value} (n : h.Ns L m) : Fr (noObjs h) L h m :=
  ⟨n, fun b o e => (by rw [noObjs_get] at e; cases e), Nat.zero_le _⟩
/-- Upd of the head entry (for append_K, setItem_K ..) -/
theorem upd_ledger {h : Heap} {L d : Addr} {o o' : Obj} : Upd d o o' ((d, o) :: ledger h L d) ((d, o') :: ledger h L d) :=
  .head fun ⟨_, _⟩ hp => (mem_ledger.mp hp).2.1

/-- x.name = v over any heap: L is any namespace of the heap (the frame's, say): its map stays, its object is not told; all else but the dict stays -/
theorem set_field {x C dx L : Addr} {ox : Obj} {m : Str → Option Value} {es es' : List DictEntry} {n n' : Nat} {name : Str} {v : Value} {Q : Unit → Shared → Prop}
    (X : K.In s.heap) (I : PySem.W.InstAt s.heap x ox C (some (dictOf es n))) (hd : ox.dict = some dx) (hL : s.heap.Ns L m) (hne : dx ≠ L)
    (hs : findIn K (.ref C) "__setattr__" = some (some (.builtin "object.__setattr__"))) (hp : plainOver K C = true) (ht : takerIn K C name = some none) (hh : hasDictIn K C = true) (hl : (getL name es).isSome = true)
    (e : (putL name (PyData.keyHash w.params name) (.str name (s.toks + 1)) v es, putN name es n) = (es', n')) (hz : es'.length ≤ 1000)
    (h : ∀ h' : Heap, h'.Ns L m → h'.get? dx = some (dictOf es' n') → (∀ b o, b ≠ dx → b ≠ L → s.heap.get? b = some o → h'.get? b = some o) → Q () { s with heap := h', toks := s.toks + 2 }) :
    wpAny (model prog w) A (setAttr (.ref x) name v) Q E s := by
  obtain ⟨e1, e2⟩ := Prod.mk.inj e
  have hdx : s.heap.get? dx = some (dictOf es n) := by
    have := I.dict
    rw [hd] at this
    exact this
  refine set_plain X I hs (osa_dict (s := { s with toks := s.toks + 1 }) (h₀ := noObjs s.heap) (L := L) (m := m) (od := dictOf es n) (od' := dictOf es' n') (es := es') (n := n') (pre := []) (post := ledger s.heap L dx)
    (fr_all hL) (news_ledger hne hdx) X I hd hp ht hh hl (fun _ q => nomatch q) (fun ⟨_, _⟩ q => (mem_ledger.mp q).2.1) (by rw [putName_dict, e1, e2]) rfl hz fun h' F' N' => ?_)
  exact h h' F'.ns (N'.get (List.Mem.head _)) fun b o n1 n2 ho => N'.get (List.Mem.tail _ (mem_ledger.mpr ⟨n2, n1, ho⟩))
end
end Att

namespace L2
open PySem PySem.Spec PyProof.Rows

theorem vals_ints : ∀ {vs : List Value} {ns : List Int}, IntsAre vs ns → Vals (ns.map V.int) vs
  | _, _, .nil => .nil
  | _, _, .cons n t h => .cons ⟨t, rfl⟩ (vals_ints h)

/-- nothing is tracked but the script, known to the object (or it is an object of the module) -/
def Only (H : Hp) : Prop := ∀ b, H b = none ∨ ∃ o xs, H b = some (.frz o (.lst xs))

/-- a list whose object is known to the last part -/
def LsD (K : PySem.W.Frag) (H : Hp) (a : Addr) (xs : List V) : Prop :=
  Rd H a (.lst xs) ∨ ∃ (its : List Value) (n : Nat), K.lookup a = some { cls := .type "list", data := .seq its.toArray n } ∧ its.length ≤ sizeLine ∧ Vals xs its
/-- THE HEAD: the law's promise, at the heap behind the top. F, the promise of the law's def, may use that base is part of the heap (so K.In base, base.Ns mainGlobals mg stand in Mod) -/
theorem law_call {P : Program} {w : World} {K : PySem.W.Frag} {mg mb : Str → Option Value} {CX : CXT} {k : Nat} {fa a : Addr} {fd : FuncData} {x : Str} {sp : Sp} {s₁ : Shared} {vs : List Value} {ns : List Int}
    (KX : K.In s₁.heap) (hns : s₁.heap.Ns mainGlobals mg) (hb : s₁.heap.Ns builtinsNs mb) (hbb : ∀ x : Str, x ≠ "__name__" → mb x = bootBuiltins x) (hlim : s₁.heap.NoLimit) (hg : s₁.gens = #[])
    (ha : s₁.heap.get? a = some { cls := .type "list", data := .seq vs.toArray }) (hi : IntsAre vs ns) (hl : ns.length ≤ sizeLine) (hr : Room k callerA)
    (F : ∀ base : Heap, K.In base → base.Ns mainGlobals mg → FnOk P w K mg base CX k fa fd [x] sp) (hbind : ∀ (s : Shared) (u : Value), BindsTo s fd ⟨[u], []⟩ [(x, u)])
    (hsp : ∀ H : Hp, Only H → LsD K H a (ns.map V.int) → sp [.ref a] H (fun v _ => v = .bl true) fun _ _ _ => False)
    (hCX : ∀ H e s', CX [] H s₁ (fun _ _ _ => False) e s' → False) :
    codeAny (model P w) callerA (.call (.ref fa) ⟨[.ref a], []⟩) (fun r s' => r = .ok (.ret (.bool true)) ∧ OldK s₁.heap s'.heap ∧ s'.os = s₁.os ∧ AllBare s'.gens) s₁ := by
  have rv := vals_ints hi
  have lenV := hi.length
  -- from an abstract heap in which nothing but the script may be tracked
  have core : ∀ H : Hp, Only H → LsD K H a (ns.map V.int) → HOk P w H s₁.heap → (∀ b, H b ≠ none → b = a) → (H a ≠ none → K.lookup a = none) →
      codeAny (model P w) callerA (.call (.ref fa) ⟨[.ref a], []⟩) (fun r s' => r = .ok (.ret (.bool true)) ∧ OldK s₁.heap s'.heap ∧ s'.os = s₁.os ∧ AllBare s'.gens) s₁ := by
    intro H hO hS hok hA hK
    have base_of : ∀ {b : Addr} {o : Obj}, s₁.heap.get? b = some o → H b = none → (hidT s₁.heap H).get? b = some o := fun e n => hidT_get e n
    have noA : ∀ {b : Addr} {o : Obj} {es : Array DictEntry} {ep : Nat}, s₁.heap.get? b = some o → o.data = .dict es ep → H b = none := fun {b o es ep} e d => by
      cases q : H b with
      | none => rfl
      | some u =>
        have e' : b = a := hA b (by rw [q]; simp)
        subst e'
        rw [ha] at e; cases e
        have d' : Data.seq vs.toArray _ = Data.dict es ep := d
        cases d'
    have nsK : ∀ {b : Addr} {m : Str → Option Value}, s₁.heap.Ns b m → (hidT s₁.heap H).Ns b m := fun {b m} ⟨o, es, ep, e, d, r⟩ => ⟨o, es, ep, base_of e (noA e d), d, r⟩
    have hKb : K.In (hidT s₁.heap H) := fun b o e => base_of (KX b o e) (by
      cases q : H b with
      | none => rfl
      | some u =>
        have e' : b = a := hA b (by rw [q]; simp)
        subst e'
        rw [hK (by rw [q]; simp)] at e; cases e)
    have hM : Mod K mg (hidT s₁.heap H) := ⟨hKb, nsK hns, ⟨mb, nsK hb, hbb⟩, let ⟨mc, h1, h2⟩ := hlim; ⟨mc, nsK h1, h2⟩⟩
    have e0 : Env0 P w K mg (hidT s₁.heap H) callerA [] s₁ H := ⟨rfl, hM, fun b o e => of_hidT e, Nat.le_of_eq (hidT_size _ _), trivial, fun b hb => absurd (show b ∈ ([] : List Addr) from hb) (by simp), hok, .of_eq hg⟩
    refine codeAny_mono ((F _ hKb (nsK hns)).run callerA [] s₁ H ⟨[.ref a], []⟩ [.ref a] [.ref a] _ _ hr e0 (hbind s₁ (.ref a)) (.cons rfl .nil) (hsp H hO hS)) fun r s' h => ?_
    cases r with
    | error e => exact (hCX H e s' h).elim
    | ok fl =>
      cases fl with
      | next => exact False.elim h
      | brk => exact False.elim h
      | cont => exact False.elim h
      | ret u =>
        obtain ⟨v, H', os, bare, un, hok', r', q⟩ := h
        have q' : v = .bl true := q
        subst q'
        obtain rfl : u = Value.bool true := r'
        refine ⟨rfl, OldK.of_keep fun b o e => ?_, os, bare⟩
        cases q : H b with
        | none => exact un.keep b o e q (by intro z; exact absurd (show b ∈ ([] : List Addr) from z) (by simp)) (by simp)
        | some u =>
          rcases hO b with z | ⟨ob, xs, z⟩
          · rw [q] at z; cases z
          · have z2 := un.frzs b ob _ z
            obtain ⟨e1, _⟩ := hok b _ z
            obtain ⟨e2, _⟩ := hok' b _ z2
            rw [e] at e1; cases e1
            exact e2
  cases hk : K.lookup a with
  | some o =>
    -- the script is one of the module's own objects
    have e := KX a o hk
    rw [ha] at e
    cases e
    refine core (fun _ => none) (fun _ => .inl rfl) (.inr ⟨vs, _, hk, by rw [lenV]; exact hl, rv⟩) (fun b u z => by have z' : (none : Option HO) = some u := z; cases z') (fun b z => absurd rfl z) fun z => absurd rfl z
  | none =>
    refine core (fun b => if b = a then some (.frz { cls := .type "list", data := .seq vs.toArray } (.lst (ns.map V.int))) else none) (fun b => ?_) (.inl (.inr ⟨{ cls := .type "list", data := .seq vs.toArray }, if_pos rfl⟩)) (fun b u z => ?_) (fun b z => ?_) fun _ => hk
    · by_cases hb : b = a
      · exact .inr ⟨_, _, if_pos hb⟩
      · exact .inl (if_neg hb)
    · by_cases hb : b = a
      · have z' := (if_pos hb).symm.trans z
        cases z'
        subst hb
        exact ⟨ha, by rw [List.length_map]; exact hl, vs, _, rv, ha⟩
      · have z' := (if_neg hb).symm.trans z
        cases z'
    · by_cases hb : b = a
      · exact hb
      · exact absurd (if_neg hb) z
end L2

namespace L2
open PySem PySem.Spec PyProof.Rows

abbrev KOf {K : PySem.W.Frag} {h : Heap} (_ : K.In h) : PySem.W.Frag := K

/-- the goal that k_head leaves (case hc), from the law's promise. F gives the function object fd (K's own) once, then the promise over every base -/
theorem walk_of {l : PySem.W.OpenLaw} {n k : Nat} {q : Program} {loose : List Str} {XP : (Str → Option Value) → Heap → Prop} {YP : World → Heap → Prop} {d : DefRec} {K : Params → PySem.W.Frag} {CX : World → CXT} {sp : World → Sp} {x : Str}
    (hn : l.most = some n) (hn2 : n ≤ sizeLine) (hdf : d.params.defaults = []) (hr : Room k callerA)
    (hY : ∀ (w : World) (h : Heap), YP w h → (K w.params).In h)
    (F : ∀ (w : World) (mg : Str → Option Value) (fa : Addr) (h : Heap), (K w.params).In h → h.Ns mainGlobals mg → mg d.name = some (.ref fa) →
      ∃ fd : FuncData, (∀ (s : Shared) (u : Value), BindsTo s fd ⟨[u], []⟩ [(x, u)]) ∧
        ∀ base : Heap, (K w.params).In base → base.Ns mainGlobals mg → FnOk l.prog w (K w.params) mg base (CX w) k fa fd [x] (sp w))
    (hsp : ∀ (w : World) (H : Hp) (a : Addr) (ns : List Int), ns.length ≤ n → Only H → LsD (K w.params) H a (ns.map V.int) → sp w [.ref a] H (fun v _ => v = .bl true) fun _ _ _ => False)
    (hCX : ∀ (w : World) (H : Hp) (s : Shared) (e : Value) (s' : Shared), CX w [] H s (fun _ _ _ => False) e s' → False) :
    PySem.W.WalkO q loose XP YP l.row.toRowW d [] (fun f vs => PySem.call f vs) := by
  refine Att.attach_call hn hdf fun w s₀ s₁ mg mb fa o pm cd doc a vs ns G Y ho hd hcd hmg hobj hints hlen hg => ?_
  have KX := hY w _ Y
  obtain ⟨fd, hb, hF⟩ := F w mg fa _ KX G.T.g hmg
  exact law_call KX G.T.g G.T.b G.T.builtins G.T.nolimit hg hobj hints (Nat.le_trans hlen hn2) hr hF hb (fun H hO hS => hsp w H a ns hlen hO hS) fun H e s' => hCX w H s₁ e s'
/-- the same where the promise hangs on the written part alone: (sp := My.sp_law), no hole under a binder -/
theorem walk_ofK {l : PySem.W.OpenLaw} {n k : Nat} {q : Program} {loose : List Str} {XP : (Str → Option Value) → Heap → Prop} {YP : World → Heap → Prop} {d : DefRec} {K : Params → PySem.W.Frag} {CX : CXT} {sp : PySem.W.Frag → Sp} {x : Str}
    (hn : l.most = some n) (hn2 : n ≤ sizeLine) (hdf : d.params.defaults = []) (hr : Room k callerA)
    (hY : ∀ (w : World) (h : Heap), YP w h → (K w.params).In h)
    (F : ∀ (w : World) (mg : Str → Option Value) (fa : Addr) (h : Heap), (K w.params).In h → h.Ns mainGlobals mg → mg d.name = some (.ref fa) →
      ∃ fd : FuncData, (∀ (s : Shared) (u : Value), BindsTo s fd ⟨[u], []⟩ [(x, u)]) ∧
        ∀ base : Heap, (K w.params).In base → base.Ns mainGlobals mg → FnOk l.prog w (K w.params) mg base CX k fa fd [x] (sp (K w.params)))
    (hsp : ∀ (K : PySem.W.Frag) (H : Hp) (a : Addr) (ns : List Int), ns.length ≤ n → Only H → LsD K H a (ns.map V.int) → sp K [.ref a] H (fun v _ => v = .bl true) fun _ _ _ => False)
    (hCX : ∀ (H : Hp) (s : Shared) (e : Value) (s' : Shared), CX [] H s (fun _ _ _ => False) e s' → False) :
    PySem.W.WalkO q loose XP YP l.row.toRowW d [] (fun f vs => PySem.call f vs) :=
  walk_of (K := K) (CX := fun _ => CX) (sp := fun w => sp (K w.params)) hn hn2 hdf hr hY F (fun w H a ns h1 h2 h3 => hsp (K w.params) H a ns h1 h2 h3) fun _ H s e s' => hCX H s e s'
end L2


/-! SHORT WORDS over the layer: a def of the text, its body, what a loop and a test want. -/
namespace L2
open PySem PySem.Spec PyProof.Rows

/-! ### the text by places -/
/-- the j-th statement of a class's body -/
def inClass (s : Stmt) (j : Nat) : Stmt := match s with
  | .ClassDef _ _ _ body _ _ _ _ _ _ _ => body.getD j (.Pass ⟨0, 0, 0, 0⟩)
  | _ => .Pass ⟨0, 0, 0, 0⟩
def defArgs (s : Stmt) : Arguments := match s with
  | .FunctionDef _ a _ _ _ _ _ _ _ _ => a
  | _ => { posonlyargs := [], args := [], vararg := none, kwonlyargs := [], kw_defaults := [], kwarg := none, defaults := [] }
def defBody (s : Stmt) : List Stmt := match s with
  | .FunctionDef _ _ b _ _ _ _ _ _ _ => b
  | _ => []
def defScope (s : Stmt) : Scope := match s with
  | .FunctionDef _ _ _ _ _ _ sc _ _ _ => sc
  | _ => { kind := .function, names := [], isGenerator := false, isCoroutine := false }

/-! ### no exception leaves a def -/
abbrev CX0 : CXT := fun _ _ _ _ _ _ => False
abbrev E0 : XK := fun _ _ _ => False
theorem pass0 {X : Cx} : Passes CX0 X E0 := fun _ _ _ _ _ _ _ h => h.elim

/-! ### a def (or method) of the text as it stands behind the top -/
structure Fun (K : PySem.W.Frag) (x qual : Str) (st : Stmt) (f : Addr) (fd : FuncData) : Prop where
  ex : ∃ (oc : Value) (od : Option Addr) (kV doc pm : Value) (an : Option Addr) (cdv ct : Value) (osl : Array (Option Value)),
    fd = PySem.W.fnOf x qual (defArgs st) (defBody st) (defScope st) .none kV doc pm an cdv ct ∧ K.lookup f = some ⟨oc, od, .func fd, osl⟩ ∧ PySem.W.codeIn K cdv qual = true
  kp : PySem.W.keepIn K (.ref f) = true
section
variable {P : Program} {w : World} {K : PySem.W.Frag} {mg : Str → Option Value} {base : Heap}
/-- THE RULE for a def: its body as a term of rules, and the reading of that term -/
theorem Fun.ok {x qual : Str} {st : Stmt} {f : Addr} {fd : FuncData} {N ps : List Str} {k : Nat} {sp : Sp} (F : Fun K x qual st f fd) (S : FnScope N ps (defScope st)) (len : ∀ vs H Q E, sp vs H Q E → vs.length = ps.length)
    (hbody : ∀ (cdv : Value) (A : Around) (outer : List Env) (s : Shared) (H : Hp) (vs : List V) (Q : VK) (E : XK), Room k (A.deeper (envOfC qual (defScope st) s.heap.objs.size f cdv)) → sp vs H Q E →
      ∃ t, PSs (cxOf CX0 P w K mg base N qual (defScope st) f cdv A outer s H E).nox (defBody st) t ∧ t { nx := fun _ H' => Q .non H', rt := Q } (start N vs) H) : FnOk P w K mg base CX0 (k + 1) f fd ps sp := by
  obtain ⟨oc, od, kV, doc, pm, an, cdv, ct, osl, rfl, lk, hcd⟩ := F.ex
  refine fn_of lk hcd S len fun A outer s H vs Q E hr hsp => ?_
  obtain ⟨t, h, q⟩ := hbody cdv A outer s H vs Q E hr hsp
  exact ⟨t, h.nox, q⟩
/-- how its arguments bind (no defaults): h is «fun _ _ _ _ _ _ us hl => match us, hl with | [_, _], _ => rfl», one _ a parameter -/
theorem Fun.binds {x qual : Str} {st : Stmt} {f : Addr} {fd : FuncData} {ps : List Str} (F : Fun K x qual st f fd)
    (h : ∀ (kV doc pm : Value) (an : Option Addr) (cdv ct : Value) (us : List Value), us.length = ps.length → bindArgs (PySem.W.fnOf x qual (defArgs st) (defBody st) (defScope st) .none kV doc pm an cdv ct) ⟨us, []⟩ = pure (ps.zip us)) : Binds K fd ps [] := by
  obtain ⟨oc, od, kV, doc, pm, an, cdv, ct, osl, rfl, lk, hcd⟩ := F.ex
  exact .all (h kV doc pm an cdv ct)
theorem fun_mk {x qual : Str} {st : Stmt} {f : Addr} {oc : Value} {od an : Option Addr} {osl : Array (Option Value)} {kV doc pm cdv ct : Value} (l : K.lookup f = some ⟨oc, od, .func (PySem.W.fnOf x qual (defArgs st) (defBody st) (defScope st) .none kV doc pm an cdv ct), osl⟩)
    (c : PySem.W.codeIn K cdv qual = true) (k : PySem.W.keepIn K (.ref f) = true) : Fun K x qual st f (PySem.W.fnOf x qual (defArgs st) (defBody st) (defScope st) .none kV doc pm an cdv ct) := ⟨⟨oc, od, kV, doc, pm, an, cdv, ct, osl, rfl, l, c⟩, k⟩
end
theorem hu_of {A : Around} {k : Nat} (hr : Room k A) : A.units + 1 < cLine := Nat.lt_of_le_of_lt (Nat.add_le_add_left (by decide : 1 ≤ 64) _) hr.units
theorem small1000 {n : Nat} (h : n ≤ 1000) : n < sizeLine := Nat.lt_of_le_of_lt h (by decide)

/-! ### expressions in short: the name that stands in the i-th slot -/
section
variable {X : Cx}
theorem pv (i : Nat) {x : Str} {pos : Pos} (hN : X.N[i]? = some x := by rfl) (hv : Vis X.env.scope x := by first | exact Or.inl rfl | exact Or.inr (Or.inl rfl) | exact Or.inr (Or.inr rfl)) (hd : (x == ("__debug__" : Str)) = false := by decide)
    (hcd : (x == ("__classdict__" : Str)) = false := by decide) : PE X (.Name x pos) (tVar i) := pe_var hN hv hd hcd
end

/-! ### tests -/
theorem iteF {A B : Prop} (h : B) : if false = true then A else B := by
  rw [if_neg Bool.false_ne_true]
  exact h
theorem iteT {A B : Prop} (h : A) : if true = true then A else B := by
  rw [if_pos rfl]
  exact h
theorem ite2 {c A B : Prop} [Decidable c] (h1 : c → A) (h2 : ¬ c → B) : if c then A else B := by
  by_cases h : c
  · rw [if_pos h]
    exact h1 h
  · rw [if_neg h]
    exact h2 h
theorem iteNS {c A B : Prop} [Decidable c] (hc : c) (h : B) : if (!decide c) = true then A else B := by
  rw [decide_eq_true hc]
  exact iteF h

/-! ### heaps -/
/-- all that was tracked is as it was -/
def Same (H H' : Hp) : Prop := ∀ b o, H b = some o → H' b = some o
theorem Same.refl (H : Hp) : Same H H := fun _ _ h => h
theorem Same.trans {H H1 H2 : Hp} (a : Same H H1) (b : Same H1 H2) : Same H H2 := fun c o h => b c o (a c o h)
theorem Same.free {H H' : Hp} (e : Same H H') {l : Addr} (h : H' l = Option.none) : H l = Option.none := by
  cases q : H l with
  | none => rfl
  | some o =>
    rw [e l o q] at h
    cases h
theorem Same.seq {K : PySem.W.Frag} {H H' : Hp} {a : Addr} {xs : List V} (e : Same H H') (h : SqL K H a xs) : SqL K H' a xs := by
  rcases h with (h | ⟨o, h⟩) | h
  · exact .inl (.inl (e _ _ h))
  · exact .inl (.inr ⟨o, e _ _ h⟩)
  · exact .inr h

end L2

set_option maxHeartbeats 4000000
/-! MY OWN RULES over the hand layer: ints of any known size, isinstance, defs by name, readings simplified -/
namespace L2
open PySem PySem.Spec PyProof.Rows
section
variable {X : Cx}
/-- a product, if its size is in bounds -/
theorem op_mulB : OpR X (binaryOp .Mult) (rI IntMulOk fun i j => .int (i * j)) := opI fun _ _ _ _ _ _ _ hc q => mul_int q hc
/-- // by a positive number of any bounded size -/
def CDivB (i j : Int) : Prop := 0 < j ∧ Builtin.divisionGoesByPylong i j = false
theorem op_fdivP : OpR X (binaryOp .FloorDiv) (rI CDivB fun i j => .int (i / j)) := opI fun i j _ _ _ _ _ hc q => by
  have h1 : (0 : Int) < j := hc.1
  exact floordiv_int (by omega) (by rw [Int.fdiv_eq_ediv_of_nonneg i (Int.le_of_lt h1)]; exact q) (.inl hc.2)
def CDivS (i j : Int) : Prop := j ≠ 0 ∧ Builtin.divisionGoesByPylong i j = false
theorem op_fdivS : OpR X (binaryOp .FloorDiv) (rI CDivS fun i j => .int (i.fdiv j)) := opI fun _ _ _ _ _ _ _ hc q => floordiv_int hc.1 q (.inl hc.2)
theorem div_small {i j : Int} (h : 0 < j) (h2 : j < 1073741824) : CDivB i j := ⟨h, PyProof.noPylong_small (by omega)⟩
theorem nopy_bits {i j : Int} (h : Builtin.Int.intBits j ≤ 9000) : Builtin.divisionGoesByPylong i j = false := by
  refine PyProof.noPylong_of_log2 ?_
  unfold Builtin.Int.intBits at h
  by_cases hj : j = 0
  · subst hj; decide +kernel
  · rw [if_neg (by simpa using hj)] at h
    omega
theorem div_bits {i j : Int} (h : 0 < j) (h2 : Builtin.Int.intBits j ≤ 9000) : CDivB i j := ⟨h, nopy_bits h2⟩
theorem mul_bits {i j : Int} {m n : Nat} (h1 : Builtin.Int.intBits i ≤ m) (h2 : Builtin.Int.intBits j ≤ n) (h : m + n ≤ 134217728 := by decide) : IntMulOk i j := IntMulOk.of_le h1 h2 h
theorem mul_right {i j : Int} (h1 : -(2 ^ 64) < j) (h2 : j < 2 ^ 64) : IntMulOk i j := .of_right (intBits_le_64 h1 h2)
theorem mul_left {i j : Int} (h1 : -(2 ^ 64) < i) (h2 : i < 2 ^ 64) : IntMulOk i j := .of_left (intBits_le_64 h1 h2)

/-! ### isinstance(x, T), T a built-in type -/
def TyW (K : PySem.W.Frag) (H : Hp) (x : V) (t : String) : Prop :=
  TyOf K H x (.type t) ∨ (∃ a xs, x = .ref a ∧ SqT K H a xs ∧ t = "tuple") ∨ (∃ a xs, x = .ref a ∧ SqL K H a xs ∧ t = "list")
def rIsi (K : PySem.W.Frag) : List V → Hp → VK → Prop := fun xs H Q => ∃ x n t b, xs = [x, .ty n] ∧ TyW K H x t ∧ PySem.W.kitOne K (.type t) (.type n) = some b ∧ Q (.bl b) H
theorem call_isi : CallR X (.builtin "isinstance") (rIsi X.K) := by
  intro pins s σ H xs us Q I r h
  obtain ⟨x, n, t, b, rfl, ty, e, q⟩ := h
  obtain ⟨u1, u2, rfl, r1, r2⟩ : ∃ u1 u2, us = [u1, u2] ∧ RelV x u1 ∧ RelV (.ty n) u2 := by
    cases r with
    | cons p q => cases q with
      | cons p' q' => cases q'; exact ⟨_, _, rfl, p, p'⟩
  cases (show u2 = Value.type n from r2)
  have fin : ∀ tk, EP X pins σ Q (.bool b) { s with toks := tk } := fun tk => ⟨.bl b, H, I.tok _, rfl, q⟩
  rcases ty with ty | ⟨a, ys, rfl, hq, rfl⟩ | ⟨a, ys, rfl, hq, rfl⟩
  · exact isinst_ok I r1 ty e fin
  · cases (show u1 = Value.ref a from r1)
    obtain ⟨its, _, p, _⟩ := I.tuple hq
    obtain ⟨o, h1, h2, _⟩ := p
    exact PySem.W.kia_one PySem.W.kitx_tuple I.kIn ⟨o, h1, h2⟩ e (fun z => nomatch z) fin
  · cases (show u1 = Value.ref a from r1)
    obtain ⟨its, _, p, _⟩ := I.list hq
    obtain ⟨o, n, h1, h2, _⟩ := p
    exact PySem.W.kia_one PySem.W.kitx_list I.kIn ⟨o, h1, h2⟩ e (fun z => nomatch z) fin
theorem kit_same {K : PySem.W.Frag} {t : String} : PySem.W.kitOne K (.type t) (.type t) = some true := by
  unfold PySem.W.kitOne
  rw [if_pos (by simp)]
theorem kit_int_bool {K : PySem.W.Frag} : PySem.W.kitOne K (.type "int") (.type "bool") = some false := by
  have h : (Value.type "int" == Value.type "bool") = false := by decide +kernel
  unfold PySem.W.kitOne PySem.W.kitCls
  rw [h, if_neg (by decide)]
  show (if PySem.W.kitMeta "bool" = true then PySem.W.subIn K (.type "int") (.type "bool") else none) = some false
  rw [if_pos (by decide +kernel)]
  show (fastBuiltinMro "int").map (·.contains (Value.type "bool")) = some false
  decide +kernel

/-! ### a def by its name -/
/-- the def called x stands behind the top and keeps its promise, with k frames -/
def Dn (P : Program) (w : World) (K : PySem.W.Frag) (mg : Str → Option Value) (base : Heap) (k : Nat) (x : Str) (ps : List Str) (sp : Sp) : Prop :=
  ∃ f fd, FnOk P w K mg base CX0 k f fd ps sp ∧ mg x = some (.ref f) ∧ PySem.W.keepIn K (.ref f) = true ∧ Binds K fd ps []
theorem pe_fn {k kk : Nat} {x : Str} {ps : List Str} {sp : Sp} {e : Expr} {es : List Expr} {t : TA} {p pos : Pos} (D : Dn X.prog X.w X.K X.mg X.base k x ps sp) (hr : Room kk X.A) (hk : k ≤ kk) (ha : PA X (e :: es) t) (hg : Gl X x := by rfl)
    (hdb : (x == ("__debug__" : Str)) = false := by decide) (he : starEach (e :: es) X.env = (false, eval e X.env) :: starEach es X.env := by rfl) (hpl : (backTo pos (starEach es X.env)).any (·.1) = false := by rfl) :
    PE X (.Call (.Name x p) (e :: es) [] pos) (tCall sp [] E0 t) := by
  obtain ⟨f, fd, F, m, kp, b⟩ := D
  exact pe_call F (hr.mono hk) hg m kp b .nil pass0 ha hdb he hpl
/-- the built-ins' names are not taken by the module -/
structure Bs (mg : Str → Option Value) : Prop where
  len : mg "len" = none
  range : mg "range" = none
  isinstance : mg "isinstance" = none
  max : mg "max" = none
  min : mg "min" = none
  int : mg "int" = none
  bool : mg "bool" = none
  tuple : mg "tuple" = none
  list : mg "list" = none
  abs : mg "abs" = none
  str : mg "str" = none
  sum : mg "sum" = none
  sorted : mg "sorted" = none
  reversed : mg "reversed" = none
  enumerate : mg "enumerate" = none
/-- a def of the text as it stands behind the top -/
def Df (K : PySem.W.Frag) (mg : Str → Option Value) (x : Str) (st : Stmt) (ps : List Str) : Prop := ∃ f fd, Fun K x x st f fd ∧ mg x = some (.ref f) ∧ Binds K fd ps []
theorem Df.ok {P : Program} {w : World} {K : PySem.W.Frag} {mg : Str → Option Value} {base : Heap} {x : Str} {st : Stmt} {N ps : List Str} {k : Nat} {sp : Sp} (F : Df K mg x st ps) (S : FnScope N ps (defScope st)) (len : ∀ vs H Q E, sp vs H Q E → vs.length = ps.length)
    (hbody : ∀ (f : Addr) (cdv : Value) (A : Around) (outer : List Env) (s : Shared) (H : Hp) (vs : List V) (Q : VK) (E : XK), Room k (A.deeper (envOfC x (defScope st) s.heap.objs.size f cdv)) → sp vs H Q E →
      ∃ t, PSs (cxOf CX0 P w K mg base N x (defScope st) f cdv A outer s H E).nox (defBody st) t ∧ t { nx := fun _ H' => Q .non H', rt := Q } (start N vs) H) : Dn P w K mg base (k + 1) x ps sp := by
  obtain ⟨f, fd, F, m, b⟩ := F
  exact ⟨f, fd, F.ok S len (hbody f), m, F.kp, b⟩
/-- a name of the module that holds v at every heap -/
def Cn (mg : Str → Option Value) (x : Str) (v : V) : Prop := ∃ u, mg x = some u ∧ RelV v u
theorem pe_cn {x : Str} {v : V} {pos : Pos} (c : Cn X.mg x v) (hg : Gl X x := by rfl) (hd : (x == ("__debug__" : Str)) = false := by decide) : PE X (.Name x pos) (tC v) := by
  obtain ⟨u, m, r⟩ := c
  exact pe_glob hg m r hd
end
theorem same_new {H : Hp} {p : Addr} (h : H p = none) (o : HO) : Same H (upd H p o) := fun b u q => by rw [upd_ne (ne_of_none q h)]; exact q
theorem Same.tup {K : PySem.W.Frag} {H H' : Hp} {a : Addr} {xs : List V} (e : Same H H') (h : SqT K H a xs) : SqT K H' a xs := by
  rcases h with (h | ⟨o, h⟩) | h
  · exact .inl (.inl (e _ _ h))
  · exact .inl (.inr ⟨o, e _ _ h⟩)
  · exact .inr h
theorem small {n : Nat} (h : n ≤ 100000) : n ≤ sizeLine := Nat.le_trans h (by decide)
theorem small' {n : Nat} (h : n ≤ 100000) : n < sizeLine := Nat.lt_of_le_of_lt h (by decide)
end L2

namespace L2
open PySem PySem.Spec PyProof.Rows
section
variable {X : Cx}
/-! ### n.bit_length() -/
def rBits : V → List V → Hp → VK → Prop := fun x vs H Q => ∃ i : Int, x = .int i ∧ vs = [] ∧ Q (.int (Builtin.Int.intBits i : Nat)) H
theorem mt_bits : MtR X "int.bit_length" rBits := by
  intro pins s σ H x vs v us Q I rx rv h
  obtain ⟨i, rfl, rfl, q⟩ := h
  obtain ⟨t, rfl⟩ := rx
  cases rv
  exact call_int_bit_length ⟨.int _, H, I.tok _, ⟨_, rfl⟩, q⟩
theorem pe_bits {o : Expr} {to : TE} {apos cpos : Pos} (ho : PE X o to) (hbase : attributeBase o "bit_length" X.env (eval o X.env) = eval o X.env := by rfl) (hline : (apos.endLine == cpos.line) = true := by rfl) :
    PE X (.Call (.Attribute o "bit_length" apos) [] [] cpos) (tBM0 X.K "int" rBits to) := pe_bm0 PySem.F.plainAttrs_int PySem.F.slot_int_bit_length PySem.F.type_int_bit_length mt_bits ho hbase hline
end

/-! ### loops, their block kept whole -/
def fBlock (J : It) (g : TG) (tb : TS) (D : Ends) (σ : St) (H : Hp) : Prop := ∃ W : Nat → Nat → St → Hp → Prop, (∃ m, W 0 m σ H) ∧ ∀ i m σ H, W i m σ H →
  (J.stop i H ∧ D.nx σ H) ∨ (J.go i H ∧ ∃ N : St → Hp → Prop, (∀ σ' H', N σ' H' → ∃ m', m' < m ∧ W (i + 1) m' σ' H') ∧ ∀ x H', J.yld i H x H' → g x σ H' fun σ2 H2 => tb { D with nx := N, ct := N, bk := D.nx } σ2 H2)
theorem tFor_eq {wi : TI} {g : TG} {tb : TS} {D : Ends} {σ : St} {H : Hp} : tFor wi g tb D σ H = wi σ H fun J H1 => fBlock J g tb D σ H1 := rfl
theorem fb_range {lo : Int} {n : Nat} {g : TG} {tb : TS} {D : Ends} {σ : St} {H : Hp} (Pv : Nat → St → Hp → Prop) (h0 : Pv 0 σ H)
    (hs : ∀ i σ H, i < n → Pv i σ H → g (.int (lo + i)) σ H fun σ2 H2 => tb { D with nx := Pv (i + 1), ct := Pv (i + 1), bk := D.nx } σ2 H2) (hd : ∀ σ H, Pv n σ H → D.nx σ H) : fBlock (Itr lo n) g tb D σ H := for_range Pv h0 hs hd
theorem fb_list {K : PySem.W.Frag} {a : Addr} {xs : List V} {g : TG} {tb : TS} {D : Ends} {σ : St} {H : Hp} (Pv : Nat → St → Hp → Prop) (h0 : Pv 0 σ H) (hl : ∀ i σ H, i ≤ xs.length → Pv i σ H → SqL K H a xs)
    (hs : ∀ i x σ H, xs[i]? = some x → Pv i σ H → g x σ H fun σ2 H2 => tb { D with nx := Pv (i + 1), ct := Pv (i + 1), bk := D.nx } σ2 H2) (hd : ∀ σ H, Pv xs.length σ H → D.nx σ H) : fBlock (Itl K a) g tb D σ H := for_list Pv h0 hl hs hd
theorem fb_tup {K : PySem.W.Frag} {a : Addr} {xs : List V} {g : TG} {tb : TS} {D : Ends} {σ : St} {H : Hp} (Pv : Nat → St → Hp → Prop) (h0 : Pv 0 σ H) (hl : ∀ i σ H, i ≤ xs.length → Pv i σ H → SqT K H a xs)
    (hs : ∀ i x σ H, xs[i]? = some x → Pv i σ H → g x σ H fun σ2 H2 => tb { D with nx := Pv (i + 1), ct := Pv (i + 1), bk := D.nx } σ2 H2) (hd : ∀ σ H, Pv xs.length σ H → D.nx σ H) : fBlock (Itt K a) g tb D σ H := for_tup Pv h0 hl hs hd
/-- a while by its word with a measure -/
theorem wh_by {c : TT} {tb : TS} {D : Ends} {σ : St} {H : Hp} (W : Nat → St → Hp → Prop) (m0 : Nat) (h0 : W m0 σ H)
    (hs : ∀ m σ H, W m σ H → c σ H fun b H1 => if b = true then ∃ N : St → Hp → Prop, (∀ σ' H', N σ' H' → ∃ m', m' < m ∧ W m' σ' H') ∧ tb { D with nx := N, ct := N, bk := D.nx } σ H1 else D.nx σ H1) : tWhile c tb D σ H := ⟨W, ⟨m0, h0⟩, hs⟩

/-! ### heaps -/
theorem Same.upd {H H' : Hp} {l : Addr} (s : Same H H') (h : H l = none) (o : HO) : Same H (upd H' l o) := fun b u q => by rw [upd_ne (ne_of_none q h)]; exact s b u q
theorem tup_upd {K : PySem.W.Frag} {H : Hp} {a l : Addr} {xs ys zs : List V} (h : SqT K H a xs) (hl : H l = some (.lst ys)) : SqT K (upd H l (.lst zs)) a xs := by
  rcases h with (h | ⟨o, h⟩) | h
  · exact .inl (.inl (by rw [upd_ne (ne_of h hl (by intro z; cases z))]; exact h))
  · exact .inl (.inr ⟨o, by rw [upd_ne (ne_of h hl (by intro z; cases z))]; exact h⟩)
  · exact .inr h
end L2
namespace L2
open PySem PySem.Spec PyProof.Rows
theorem bt_int : bootBuiltins "int" = some (.type "int") := by decide +kernel
theorem bt_bool : bootBuiltins "bool" = some (.type "bool") := by decide +kernel
theorem bt_tuple : bootBuiltins "tuple" = some (.type "tuple") := by decide +kernel
theorem bt_list : bootBuiltins "list" = some (.type "list") := by decide +kernel
theorem bt_str : bootBuiltins "str" = some (.type "str") := by decide +kernel
theorem bt_len : bootBuiltins "len" = some (.builtin "len") := by decide +kernel
theorem bt_abs : bootBuiltins "abs" = some (.builtin "abs") := by decide +kernel
theorem bt_max : bootBuiltins "max" = some (.builtin "max") := by decide +kernel
theorem bt_min : bootBuiltins "min" = some (.builtin "min") := by decide +kernel
theorem bt_isinstance : bootBuiltins "isinstance" = some (.builtin "isinstance") := by decide +kernel
theorem cx_K {CX : CXT} {P : Program} {w : World} {K : PySem.W.Frag} {mg : Str → Option Value} {base : Heap} {N : List Str} {q : Str} {sc : Scope} {f : Addr} {cd : Value} {A : Around} {o : List Env} {s : Shared} {H : Hp} {E : XK} : (cxOf CX P w K mg base N q sc f cd A o s H E).K = K := rfl
theorem nox_K {X : Cx} : X.nox.K = X.K := rfl
theorem cmp_K {X : Cx} {scope : Scope} {N' : List Str} {cl : List (Str × Addr)} {C : Addr} {s2 : Shared} {H2 : Hp} {fp : List Addr} {pins : List (Addr × Obj)} : ({ X with N := N', s₀ := s2, H₀ := H2, env := compEnvC scope cl C X.env, outer := X.stack, stack := X.stack, ex := fp, fn := fun _ => false, pn := X.pn ++ pins, xe := fun _ _ => False } : Cx).K = X.K := rfl
theorem scal_ii {i j : Int} : scal (.int i) (.int j) = true := rfl
theorem scal_bb {i j : Bool} : scal (.bl i) (.bl j) = true := rfl
theorem scal_ss {i j : Str} : scal (.str i) (.str j) = true := rfl
theorem scal_sn {i : Str} : scal (.str i) .non = true := rfl
theorem scal_in {i : Int} : scal (.int i) .non = true := rfl
section
variable {X : Cx}
theorem call_lenL : CallR X (.builtin "len") (fun xs H Q => ∃ p ys, xs = [.ref p] ∧ SqL X.K H p ys ∧ Q (.int ys.length) H) := by
  intro pins s σ H xs us Q I r h
  obtain ⟨p, ys, e, hq, q⟩ := h
  exact call_len_seq pins s σ H xs us Q I r ⟨p, ys, e, .inl hq, q⟩
theorem call_lenT : CallR X (.builtin "len") (fun xs H Q => ∃ p ys, xs = [.ref p] ∧ SqT X.K H p ys ∧ Q (.int ys.length) H) := by
  intro pins s σ H xs us Q I r h
  obtain ⟨p, ys, e, hq, q⟩ := h
  exact call_len_seq pins s σ H xs us Q I r ⟨p, ys, e, .inr hq, q⟩
end
theorem tyW_int {K : PySem.W.Frag} {H : Hp} {i : Int} : TyW K H (.int i) "int" := .inl (.int i)
theorem tyW_tup {K : PySem.W.Frag} {H : Hp} {a : Addr} {xs : List V} (h : SqT K H a xs) : TyW K H (.ref a) "tuple" := .inr (.inl ⟨a, xs, rfl, h, rfl⟩)
theorem tyW_lst {K : PySem.W.Frag} {H : Hp} {a : Addr} {xs : List V} (h : SqL K H a xs) : TyW K H (.ref a) "list" := .inr (.inr ⟨a, xs, rfl, h, rfl⟩)
end L2
namespace L2
open PySem PySem.Spec PyProof.Rows
section
variable {X : Cx}
/-! ### the same rules with the fragment said (inside a comprehension) -/
theorem ix_tupK (K : PySem.W.Frag) (h : X.K = K := by rfl) : IxR X (rIxT K) := by subst h; exact ix_tup
theorem ix_listK (K : PySem.W.Frag) (h : X.K = K := by rfl) : IxR X (rIxL K) := by subst h; exact ix_list
end
end L2

/-! MY OWN: a list comprehension of one clause -/
namespace L2
open PySem PySem.Spec PyProof.Rows
section
variable {X : Cx}
theorem closure_of {scope : Scope} {env : Env} (h : ∀ y ∈ scope.names, y.2 = .free → ∃ c, env.cells.lookup y.1 = some c) :
    ∃ cl : List (Str × Addr), closureFor scope env = pure cl ∧ (∀ n c, cl.lookup n = some c → env.cells.lookup n = some c) ∧ ∀ n, (n, NameKind.free) ∈ scope.names → ∃ c, cl.lookup n = some c := by
  have go : ∀ (l : List (Str × NameKind)) (cs : List (Str × Addr)), (∀ y ∈ l, y.2 = .free → ∃ c, env.cells.lookup y.1 = some c) → (∀ n c, cs.lookup n = some c → env.cells.lookup n = some c) →
      ∃ cl : List (Str × Addr), (forIn l cs fun x r => (match x with | (name, kind) => if (kind == NameKind.free) = true then (do let a ← cellOf env name; pure (ForInStep.yield ((name, a) :: r))) else pure (ForInStep.yield r) : Sem (ForInStep (List (Str × Addr))))) = (pure cl : Sem _) ∧
        (∀ n c, cl.lookup n = some c → env.cells.lookup n = some c) ∧ (∀ n, (n, NameKind.free) ∈ l → ∃ c, cl.lookup n = some c) ∧ ∀ n c, cs.lookup n = some c → ∃ c', cl.lookup n = some c' := by
    intro l
    induction l with
    | nil => intro cs _ hc; exact ⟨cs, rfl, hc, fun n hn => by simp at hn, fun n c e => ⟨c, e⟩⟩
    | cons y r ih =>
      intro cs hl hc
      obtain ⟨name, kind⟩ := y
      by_cases hk : kind = .free
      · subst hk
        obtain ⟨c, e⟩ := hl (name, .free) List.mem_cons_self rfl
        have hc' : ∀ n d, ((name, c) :: cs).lookup n = some d → env.cells.lookup n = some d := by
          intro n d q
          rw [List.lookup_cons] at q
          cases hb : n == name with
          | true => rw [hb] at q; cases q; rw [eq_of_beq hb]; exact e
          | false => rw [hb] at q; exact hc n d q
        obtain ⟨cl, h1, h2, h3, h4⟩ := ih ((name, c) :: cs) (fun y hy => hl y (List.mem_cons_of_mem _ hy)) hc'
        refine ⟨cl, ?_, h2, fun n hn => ?_, fun n d q => ?_⟩
        · rw [List.forIn_cons]
          have ec : cellOf env name = pure c := by unfold cellOf; rw [e]
          simp only [beq_self_eq_true, if_true, ec, pure_bind]
          exact h1
        · rcases List.mem_cons.mp hn with z | z
          · cases z
            exact h4 name c (by rw [List.lookup_cons]; simp)
          · exact h3 n z
        · by_cases hb : n == name
          · exact h4 n c (by rw [List.lookup_cons, hb])
          · exact h4 n d (by rw [List.lookup_cons]; simp only [hb]; exact q)
      · obtain ⟨cl, h1, h2, h3, h4⟩ := ih cs (fun y hy => hl y (List.mem_cons_of_mem _ hy)) hc
        refine ⟨cl, ?_, h2, fun n hn => ?_, h4⟩
        · rw [List.forIn_cons]
          have eb : (kind == NameKind.free) = false := by simpa using hk
          simp only [eb, Bool.false_eq_true, if_false, pure_bind]
          exact h1
        · rcases List.mem_cons.mp hn with z | z
          · cases z; exact absurd rfl hk
          · exact h3 n z
  obtain ⟨cl, h1, h2, h3, _⟩ := go scope.names [] h (fun n c e => by simp at e)
  refine ⟨cl, ?_, h2, h3⟩
  simp only [closureFor]
  rw [h1]
  rfl

/-- the context of the block -/
def compCx (X : Cx) (scope : Scope) (N' : List Str) (cl : List (Str × Addr)) (C : Addr) (s2 : Shared) (H2 : Hp) (fp : List Addr) (pins : List (Addr × Obj)) : Cx :=
  { X with N := N', s₀ := s2, H₀ := H2, env := compEnvC scope cl C X.env, outer := X.stack, stack := X.stack, ex := fp, fn := fun _ => false, pn := X.pn ++ pins, xe := fun _ _ => False }
/-- what the comprehension's scope must be: its own name x, the captured ones (slots ix of the def's names) -/
structure CompSc (X : Cx) (scope : Scope) (x : Str) (ix : List Nat) (N' : List Str) : Prop where
  kind : scope.kind = .function
  nocell : ∀ y ∈ scope.names, y.2 ≠ .cell
  names : ∀ y ∈ scope.names, y.2 = .local → scope.names.lookup y.1 = some .local
  own : scope.names.lookup x = some .local
  free : ∀ y ∈ scope.names, y.2 = .free → X.env.kindOf y.1 = some .cell ∨ X.env.kindOf y.1 = some .free
  only : ∀ n, (X.env.scope.kind = .function) → ((relabel scope X.env).names.lookup n = some .cell ∨ (relabel scope X.env).names.lookup n = some .free) → (n, NameKind.free) ∈ scope.names
  nm : N' = x :: ix.map fun j => X.N.getD j ""
  ixs : ∀ j ∈ ix, j < X.N.length ∧ (X.N.getD j "", NameKind.free) ∈ scope.names ∧ ((relabel scope X.env).names.lookup (X.N.getD j "") = some .cell ∨ (relabel scope X.env).names.lookup (X.N.getD j "") = some .free)
def capt (ix : List Nat) (σ : St) : St := ix.map fun j => (σ[j]?).join
section
variable {scope : Scope} {x : Str} {ix : List Nat} {N' : List Str} {cl : List (Str × Addr)} {C : Addr} {s2 s3 : Shared} {H2 : Hp} {fp : List Addr} {pins : List (Addr × Obj)} {σ : St}
theorem comp_ok (S : CompSc X scope x ix N') (I : Inv X pins σ H2 s2) (hC : s2.heap.objs.size ≤ C) (h1 : ∀ n c, cl.lookup n = some c → X.env.cells.lookup n = some c) (h2 : ∀ n, (n, NameKind.free) ∈ scope.names → ∃ c, cl.lookup n = some c)
    (hf : ∀ b ∈ fp, FpOk X pins H2 b) (hfl : ∀ b ∈ fp, b < s2.heap.objs.size) : (compCx X scope N' cl C s2 H2 fp pins).Ok where
  mod := I.ok.mod
  kind := by show (relabel scope X.env).kind = _; exact S.kind
  glob := I.ok.glob
  blt := I.ok.blt
  above := hC
  inj := fun a b c e1 e2 => I.ok.inj a b c (h1 _ _ e1) (h1 _ _ e2)
  has := fun a h => h2 a (S.only a I.ok.kind h)
  cab := fun a c h => by cases h
  hd := I.ok.hd
  frames := I.ok.frames
  stk := .inl rfl
  exf := fun b hb => ⟨Nat.ne_of_lt (Nat.lt_of_lt_of_le (hfl b hb) hC), fun a c e => (hf b hb).2.2.2.2.1 a c (h1 _ _ e)⟩
  bs := I.bs
  bsz := Nat.le_trans I.ok.bsz I.sz
  noex := fun b o e hb => by
    rcases (hf b hb).2.2.2.1 with z | z
    · exact I.ok.noex b o e z
    · have := (I.ok.bs b o e).1
      exact absurd (Nat.lt_of_lt_of_le (Heap.lt_size this) z) (Nat.lt_irrefl _)
  exfs := fun b hb z => by
    rcases List.mem_cons.mp (I.stkSub b z) with e | e
    · exact (hf b hb).2.1 e
    · exact (hf b hb).2.2.1 e
  funs := I.stack
  frf := I.stkFree
theorem capt_get {j : Nat} {v : V} (h : (capt ix σ)[j]? = some (some v)) : ∃ i, ix[j]? = some i ∧ σ[i]? = some (some v) := by
  unfold capt at h
  rw [List.getElem?_map] at h
  cases e : ix[j]? with
  | none => rw [e] at h; cases h
  | some i =>
    rw [e] at h
    have h' : (σ[i]?).join = some v := Option.some.inj h
    refine ⟨i, rfl, ?_⟩
    cases q : σ[i]? with
    | none => rw [q] at h'; cases h'
    | some w => rw [q] at h'; rw [show w = some v from h']
/-- the block's state at its entry -/
theorem comp_inv (S : CompSc X scope x ix N') (I : Inv X pins σ H2 s2) (hC : s2.heap.objs.size ≤ C) (h1 : ∀ n c, cl.lookup n = some c → X.env.cells.lookup n = some c) (h2 : ∀ n, (n, NameKind.free) ∈ scope.names → ∃ c, cl.lookup n = some c)
    (hf : ∀ b ∈ fp, FpOk X pins H2 b) (hfl : ∀ b ∈ fp, b < s2.heap.objs.size) (hs3 : s3.os = s2.os) (hg : s3.gens = s2.gens) (k : ∀ b o, s2.heap.get? b = some o → s3.heap.get? b = some o) {m : Str → Option Value} (hn : s3.heap.Ns C m) :
    Inv (compCx X scope N' cl C s2 H2 fp pins) [] (none :: capt ix σ) H2 s3 where
  ok := comp_ok S I hC h1 h2 hf hfl
  os := hs3
  bare := by rw [hg]; exact I.bare
  base := ⟨fun b o e _ _ _ => k b o e, fun b o e _ _ _ => ⟨o.slots, k b o e⟩, fun b o e n _ => n, fun b o e _ => ⟨o, k b o e⟩, fun _ _ e => e, fun _ _ _ e => e, fun b ps e => ⟨#[], by rw [Array.append_empty]; exact e⟩⟩
  loc := by
    refine ⟨m, hn, fun i y v e1 e2 e3 => ?_⟩
    cases i with
    | zero => simp at e2
    | succ i =>
      have e2' : (capt ix σ)[i]? = some (some v) := by simpa using e2
      obtain ⟨j, ej, es⟩ := capt_get e2'
      have e1' : N'[i + 1]? = some y := e1
      rw [S.nm, List.getElem?_cons_succ, List.getElem?_map, ej] at e1'
      have ey : X.N.getD j "" = y := Option.some.inj e1'
      obtain ⟨hj, hfr, hk⟩ := S.ixs j (List.mem_of_getElem? ej)
      obtain ⟨m0, hn0, hl0⟩ := I.loc
      have eN : X.N[j]? = some y := by rw [← ey, List.getD_eq_getElem?_getD, List.getElem?_eq_getElem hj]; rfl
      have kd := S.free _ hfr rfl
      have hv : Vis X.env.scope y := by
        rw [← ey]
        rcases kd with z | z
        · exact .inr (.inl z)
        · exact .inr (.inr z)
      obtain ⟨u, r, l⟩ := hl0 j y v eN es hv
      refine ⟨u, r, .inr ?_⟩
      rcases l with ⟨q, _⟩ | ⟨_, c, ec, z⟩
      · have kd' : X.env.kindOf y = some .cell ∨ X.env.kindOf y = some .free := by rw [← ey]; exact kd
        rcases kd' with w | w <;> rw [q] at w <;> cases w
      · obtain ⟨c', e'⟩ := h2 _ hfr
        rw [ey] at e'
        have := h1 _ _ e'
        rw [ec] at this; cases this
        obtain ⟨o, ho, hd⟩ := z
        exact ⟨by rw [← ey]; exact hk, c, e', o, k c o ho, hd⟩
  cell := fun a c e => by
    obtain ⟨v, o, ho, hd⟩ := I.cell a c (h1 _ _ e)
    exact ⟨v, o, k c o ho, hd⟩
  free := I.hok.fresh hC
  freeC := fun a c e => I.freeC a c (h1 _ _ e)
  pin := fun p hp => by
    have hp' : p ∈ X.pn ++ pins := by
      rcases List.mem_append.mp hp with z | z
      · exact z
      · simp at z
    obtain ⟨e, n, ne, nf, d⟩ := I.pin p hp'
    refine ⟨k _ _ e, n, Nat.ne_of_lt (Nat.lt_of_lt_of_le (Heap.lt_size e) hC), fun z => ?_, d⟩
    rcases List.mem_cons.mp (I.stkSub _ z) with q | q
    · exact ne q
    · exact nf q
  hok := I.hok.kept k
  len := by
    show (none :: capt ix σ).length = N'.length
    rw [S.nm]
    unfold capt
    simp

abbrev lob (its : List Value) (n : Nat) : Obj := { cls := .type "list", data := .seq its.toArray n }
/-- a list that stood untracked is tracked -/
theorem Inv.track {X : Cx} {pins : List (Addr × Obj)} {σ : St} {H : Hp} {s : Shared} {D : Addr} {ys : List V} {its : List Value} {n : Nat} (I : Inv X pins σ H s) (hD : H D = none) (hs : X.s₀.heap.objs.size ≤ D) (hl : D ≠ X.env.locals) (hc : ∀ x c, X.env.cells.lookup x = some c → c ≠ D)
    (hp : ∀ p ∈ X.pn ++ pins, p.1 ≠ D) (e : s.heap.get? D = some (lob its n)) (r : Vals ys its) (hz : ys.length ≤ sizeLine) : Inv X pins σ (upd H D (.lst ys)) s := by
  have h := I.step (H' := upd H D (.lst ys)) (h' := s.heap) (g' := s.gens) (t' := s.toks) (d' := s.drawn) (ch := [D]) (fun b hb => by
      have e : b = D := by simpa using hb
      subst e
      exact ⟨.inr hs, hl, hc, hp⟩)
    (fun b o _ _ _ q _ => q) (fun b o _ _ _ q _ => ⟨o.slots, q⟩) (fun b o hb _ q => by rw [upd_ne (by simpa using hb)]; exact q) (fun b o _ q => ⟨o, q⟩)
    (fun b xs q => by rw [upd_ne (ne_of_none q hD)]; exact q) (fun b o u q => by rw [upd_ne (ne_of_none q hD)]; exact q) (fun b ps q => ⟨#[], by rw [upd_ne (ne_of_none q hD), Array.append_empty]; exact q⟩) (fun m hm => hm) (fun b u q => ?_) I.bare
  · exact h
  · by_cases hb : b = D
    · subst hb
      rw [upd_same] at q; cases q
      exact ⟨hz, its, n, r, e⟩
    · rw [upd_ne hb] at q
      exact (I.hok b u q).stay (fun _ _ _ z => z) (fun c z => by rw [upd_ne (ne_of_none z hD)]; exact z) fun c xs z => by rw [upd_ne (ne_of_none z hD)]; exact z
/-- out of the block -/
theorem comp_exit (I0 : Inv X pins σ H2 s2) (hC : s2.heap.objs.size ≤ C) {D : Addr} (hD : s2.heap.objs.size ≤ D) (hf : ∀ b ∈ fp, FpOk X pins H2 b) {σ' : St} {H : Hp} {s1 : Shared} {ys : List V} {its : List Value} {n : Nat} {more : List (Addr × Obj)}
    (I : Inv (compCx X scope N' cl C s2 H2 fp pins) ((D, lob its n) :: more) σ' H s1) (r : Vals ys its) (hz : ys.length ≤ sizeLine) {h' : Heap} (hs : Heap.SameBut C s1.heap h') (hDC : D ≠ C) :
    Inv X pins σ (upd H D (.lst ys)) { s1 with heap := h' } := by
  have nC : ∀ b o, s2.heap.get? b = some o → b ≠ C := fun b o e => Nat.ne_of_lt (Nat.lt_of_lt_of_le (Heap.lt_size e) hC)
  have B : Un (frs X.stack) fp H2 H s2.heap s1.heap := I.base
  have fC : H C = none := I.free
  have pD := I.pin (D, lob its n) (List.mem_append_right _ List.mem_cons_self)
  have u : Un (frs X.stack) fp H2 H s2.heap h' := ⟨fun b o e n hb hx => (hs.2 b (nC b o e)).trans (B.keep b o e n hb hx), fun b o e n hb hx => by
      obtain ⟨sl, q⟩ := B.slot b o e n hb hx
      exact ⟨sl, (hs.2 b (nC b o e)).trans q⟩, B.free, fun b o e hx => by
      obtain ⟨o', q⟩ := B.there b o e hx
      exact ⟨o', (hs.2 b (nC b o e)).trans q⟩, B.tups, B.frzs, B.tbls⟩
  have hok : HOk X.prog X.w H h' := fun b o e => (I.hok b o e).stay (fun c v hc q => (hs.2 c (by
      rintro rfl
      rcases hc with z | z
      · subst z; rw [fC] at e; cases e
      · rw [fC] at z; cases z)).trans q) (fun _ q => q) fun _ _ q => q
  have I1 : Inv X pins σ H { s1 with heap := h' } := I0.call' (s' := { s1 with heap := h' }) (ch := fp) I.os u hok I.bare fun b hb => ⟨(hf b hb).2.2.2.1, (hf b hb).2.1, (hf b hb).2.2.2.2.1, (hf b hb).2.2.2.2.2⟩
  refine I1.track (its := its) (n := n) pD.2.1 (Nat.le_trans I0.sz hD) (Nat.ne_of_gt (Nat.lt_of_lt_of_le I0.lt hD)) (fun a c e z => ?_) (fun p hp z => ?_) ((hs.2 D hDC).trans pD.1) r hz
  · obtain ⟨v, q⟩ := I0.cell a c e
    exact absurd (Nat.lt_of_lt_of_le q.lt (by rw [z]; exact hD)) (Nat.lt_irrefl _)
  · exact absurd (Nat.lt_of_lt_of_le (Heap.lt_size (I0.pin p hp).1) (by rw [z]; exact hD)) (Nat.lt_irrefl _)
end
/-- the block's word -/
def cBlock (J : It) (ix : List Nat) (te : TE) (σ : St) (H : Hp) (Q : VK) : Prop := ∃ W : Nat → Nat → List V → Hp → Prop, (∃ m, W 0 m [] H) ∧ ∀ i m ys H, W i m ys H → ys.length ≤ sizeLine ∧
  ((J.stop i H ∧ ∀ p, H p = none → Q (.ref p) (upd H p (.lst ys))) ∨ (J.go i H ∧ ys.length < sizeLine ∧ ∃ N : VK, (∀ y H2, N y H2 → ∃ m', m' < m ∧ W (i + 1) m' (ys ++ [y]) H2) ∧ ∀ v H', J.yld i H v H' → te (some v :: capt ix σ) H' N))
def tComp (wi : TI) (ix : List Nat) (te : TE) : TE := fun σ H Q => wi σ H fun J H1 => cBlock J ix te σ H1 Q
section
variable {scope : Scope} {x : Str} {ix : List Nat} {N' : List Str} {elt iter : Expr} {px pos : Pos} {wi : TI} {te : TE}
/-- the block from the iterator on; use: what is done with the list while the block's names still stand -/
theorem comp_run (S : CompSc X scope x ix N') (hN : N'.Nodup) (hc : X.calm = true) (helt : ∀ cl C s2 H2 fp pins, PE (compCx X scope N' cl C s2 H2 fp pins) elt te)
    {pins : List (Addr × Obj)} {σ : St} {s2 : Shared} {Q : VK} {itv : Value} (h : PIE X pins σ (.Name x px) (fun J H1 => cBlock J ix te σ H1 Q) itv s2) {cl : List (Str × Addr)} (h1 : ∀ n c, cl.lookup n = some c → X.env.cells.lookup n = some c) (h2 : ∀ n, (n, NameKind.free) ∈ scope.names → ∃ c, cl.lookup n = some c)
    {use : Option (Value → Sem Unit)} {QQ : Value → Shared → Prop}
    (fin : ∀ (D C : Addr) (H' : Hp) (s1 : Shared) (m : Str → Option Value), s1.heap.Ns C m → H' C = none → X.s₀.heap.objs.size ≤ C → C ≠ X.env.locals → (∀ a c, X.env.cells.lookup a = some c → c ≠ C) → (∀ p ∈ X.pn ++ pins, p.1 ≠ C) → (∀ h', Heap.SameBut C s1.heap h' → Inv X pins σ H' { s1 with heap := h' }) → Q (.ref D) H' →
      compPost (model X.prog X.w) X.A X.xe use QQ (.ref D) C (.ok .next) s1) :
    wpAny (model X.prog X.w) X.A (newList []) (fun acc s₃ => wpAny (model X.prog X.w) X.A (newFunctionEnv scope X.env.globals cl [] X.env.qual none .none (some X.env)) (fun cenv s₄ =>
      codeAny (model X.prog X.w) X.A (.compStart (.ListComp elt [⟨.Name x px, iter, [], 0⟩] scope pos) 0 itv acc { cenv with scope := relabel scope X.env }) (compPost (model X.prog X.w) X.A X.xe use QQ acc cenv.locals) s₄) X.xe s₃) X.xe s2 := by
  obtain ⟨it, fp, tn, J, H1, rfl, I2, T, st2, f2, W, ⟨m0, w0⟩, turn⟩ := h
  have hfl : ∀ b ∈ fp, b < s2.heap.objs.size := fun b hb => by
    obtain ⟨o, e, _⟩ := T.obj _ _ st2 b hb
    exact Heap.lt_size e
  refine wpAny_newObj_type (wpAny_newFunctionEnv S.nocell (by intro y hy; simp at hy) (fun h₁ hns₁ hsb₁ => ?_) S.kind)
  dsimp only at hns₁ hsb₁ ⊢
  generalize hH2 : s2.heap.push { cls := .type "list", dict := none, data := .seq ([] : List Value).toArray } = P2 at hns₁ hsb₁ ⊢
  have hC : P2.objs.size = s2.heap.objs.size + 1 := by rw [← hH2, Heap.size_push]
  have hDC : s2.heap.objs.size ≠ P2.objs.size := by rw [hC]; exact Nat.ne_of_lt (Nat.lt_succ_self _)
  have hCle : s2.heap.objs.size ≤ P2.objs.size := by rw [hC]; exact Nat.le_succ _
  have below : ∀ b, b < s2.heap.objs.size → b ≠ P2.objs.size := fun b hb => by rw [hC]; exact Nat.ne_of_lt (Nat.lt_succ_of_lt hb)
  have old : ∀ b o, s2.heap.get? b = some o → h₁.get? b = some o := fun b o e => hsb₁.extBut b o (below b (Heap.lt_size e)) (Heap.get?_push_of_some _ (hH2 ▸ Heap.get?_push_of_some _ e))
  have hacc : h₁.get? s2.heap.objs.size = some (lob [] 0) := hsb₁.extBut _ _ hDC (Heap.get?_push_of_some _ (hH2 ▸ Heap.get?_push_size _ rfl))
  generalize P2.objs.size = C at *
  generalize hDD : s2.heap.objs.size = D at *
  have neP : ∀ p ∈ X.pn ++ pins, p.1 ≠ D ∧ p.1 ≠ C := fun p hp => by
    have := Heap.lt_size (I2.pin p hp).1
    rw [hDD] at this
    exact ⟨Nat.ne_of_lt this, Nat.ne_of_lt (Nat.lt_of_lt_of_le this hCle)⟩
  have DnF : D ∉ fp := fun hb => Nat.lt_irrefl _ (hfl D hb)
  have CnF : C ∉ fp := fun hb => absurd (Nat.lt_of_lt_of_le (hfl C hb) hCle) (Nat.lt_irrefl _)
  have cellD : ∀ a c, X.env.cells.lookup a = some c → c ≠ D ∧ c ≠ C := fun a c e => by
    obtain ⟨v, q⟩ := I2.cell a c e
    have := q.lt
    rw [hDD] at this
    exact ⟨Nat.ne_of_lt this, Nat.ne_of_lt (Nat.lt_of_lt_of_le this hCle)⟩
  have locD : X.env.locals < D := by have := I2.lt; rw [hDD] at this; exact this
  have s0D : X.s₀.heap.objs.size ≤ D := by rw [← hDD]; exact I2.sz
  -- in the block
  have I3 := comp_inv (s3 := { s2 with heap := h₁, toks := s2.toks + ([] : List (Str × Value)).length }) S I2 (by rw [hDD]; exact hCle) h1 h2 f2 (by rw [hDD]; exact hfl) rfl rfl old hns₁
  have stat : ∀ {H' : Hp} {pp : List (Addr × Obj)}, (∀ p ∈ pp, p.1 ∉ fp) → (∀ b ∈ fp, H' b = none) → ∀ b ∈ fp, FpOk (compCx X scope N' cl C s2 H1 fp pins) pp H' b := fun {H' pp} hpp hn b hb => by
    obtain ⟨f0, f1, f3, f4, f5, f6⟩ := f2 b hb
    refine ⟨hn b hb, fun z => CnF (by rw [← show b = C from z]; exact hb), fun z => ?_, .inl hb, fun a c e => f5 a c (h1 _ _ e), fun p hp => ?_⟩
    · rcases List.mem_cons.mp (I2.stkSub b z) with q | q
      · exact f1 q
      · exact f3 q
    · rcases List.mem_append.mp hp with q | q
      · exact f6 p q
      · intro z; exact hpp p q (by rw [z]; exact hb)
  have DnS : ∀ b, D ≤ b → b ∉ frs X.stack := fun b hb z => by
    rcases List.mem_cons.mp (I2.stkSub b z) with q | q
    · rw [q] at hb; exact absurd (Nat.lt_of_lt_of_le locD hb) (Nat.lt_irrefl _)
    · exact I2.nofs (by rw [hDD]; exact hb) q
  have loop : ∀ s₃ : Shared, s₃ = { s2 with heap := h₁, toks := s2.toks + ([] : List (Str × Value)).length } →
      codeAny (model X.prog X.w) X.A (.compLoop (.ListComp elt [⟨.Name x px, iter, [], 0⟩] scope pos) 0 (.ref it) (.ref D) (compEnvC scope cl C X.env)) (compPost (model X.prog X.w) X.A X.xe use QQ (.ref D) C) s₃ := by
    rintro s₃ rfl
    refine codeAny_compLoop_tests (fun n s' => ∃ (i : Nat) (ys : List V) (its : List Value) (k : Nat) (σ' : Option V) (H' : Hp), Inv (compCx X scope N' cl C s2 H1 fp pins) [(D, lob its k)] (σ' :: capt ix σ) H' s' ∧ tn i s'.heap ∧ (∀ b ∈ fp, H' b = none) ∧ W i n ys H' ∧ Vals ys its) ?_ m0
      ⟨0, [], [], 0, none, H1, ?_, T.keep _ _ _ st2 (fun b hb o e => old b o e), fun b hb => (f2 b hb).1, w0, .nil⟩ (by intro _; rfl)
    · rintro n s' ⟨i, ys, its, k, σ', H', I, st, fr, w, rv⟩
      obtain ⟨hz, w⟩ := turn i n ys H' w
      have pD := I.pin (D, lob its k) (List.mem_append_right _ List.mem_cons_self)
      have hpp : ∀ p ∈ [(D, lob its k)], p.1 ∉ fp := fun p hp => by
        have e : p = (D, lob its k) := by simpa using hp
        rw [e]; exact DnF
      rcases w with ⟨stop, q⟩ | ⟨go, hz', N, hNN, step⟩
      · refine wpAny_mono (T.done (compCx X scope N' cl C s2 H1 fp pins) rfl rfl rfl hc i _ s' _ H' (fun _ _ => False) I (stat hpp fr) st stop) (fun r s1 hr => ?_) fun _ _ z => z.elim
        obtain ⟨rfl, I1⟩ := hr
        obtain ⟨m, hn, _⟩ := I1.loc
        have p1 := I1.pin (D, lob its k) (List.mem_append_right _ List.mem_cons_self)
        have fC : H' C = none := I1.free
        refine fin D C (upd H' D (.lst ys)) s1 m hn (by rw [upd_ne (Ne.symm hDC)]; exact fC) (Nat.le_trans s0D hCle) (Nat.ne_of_gt (Nat.lt_of_lt_of_le locD hCle)) (fun a c e => (cellD a c e).2) (fun p hp => (neP p hp).2) (fun h' hs => ?_) (q D p1.2.1)
        exact comp_exit (N' := N') I2 (by rw [hDD]; exact hCle) (by rw [hDD]; exact Nat.le_refl _) f2 I1 rv hz hs hDC
      · refine wpAny_mono (T.item (compCx X scope N' cl C s2 H1 fp pins) rfl rfl rfl hc i _ s' _ H' (fun _ _ => False) I (stat hpp fr) st go) (fun r s4 hr => ?_) fun _ _ z => z.elim
        obtain ⟨u, rfl, h4⟩ := hr
        have key : wpAny (model X.prog X.w) X.A (letOwnedTupleGo (.Name x px) (.ref it) u >>= fun _ => assign (.Name x px) (compEnvC scope cl C X.env) u) (fun _ s6 => ∃ (v : V) (H5 : Hp) (h5 : Heap), J.yld i H' v H5 ∧ tn (i + 1) h5 ∧ (∀ b ∈ fp, H5 b = none) ∧
            Inv (compCx X scope N' cl C s2 H1 fp pins) ([(D, lob its k)] ++ pinsAt fp h5) (some v :: capt ix σ) H5 s6) (notedBy (model X.prog X.w) X.A (compEnvC scope cl C X.env) fun e s' => compPost (model X.prog X.w) X.A X.xe use QQ (.ref D) C (.error e) s') s4 := by
          refine wpAny_bind (wpAny_mono h4 (fun _ s5 h5 => ?_) fun _ _ z => z.elim)
          obtain ⟨v, H5, I5, r5, y5, st5, fr5⟩ := h5
          have I5' := I5.pinned (stat hpp fr5) (T.obj _ _ st5)
          refine wpAny_assign_Name (store_ok (X := compCx X scope N' cl C s2 H1 fp pins) (i := 0) I5' hN (by show N'[0]? = some x; rw [S.nm]; rfl) (.inl (lookup_relabel_local S.own)) r5 (fun s6 I6 => ?_) (.inr (lookup_relabel_local S.own)))
          exact ⟨v, H5, s5.heap, y5, st5, fr5, I6⟩
        refine wpAny_mono (show wpAny (model X.prog X.w) X.A (assign (.Name x px) (compEnvC scope cl C X.env) u) _ _ s4 from key) (fun _ s6 h6 => ?_) fun _ _ z => z
        obtain ⟨v, H5, h5, y5, st5, fr5, I6⟩ := h6
        refine wpAny_pure ?_
        rw [if_pos rfl]
        refine wpAny_mono (helt cl C s2 H1 fp pins _ s6 _ H5 _ I6 (step v H5 y5)) (fun y s7 h7 => ?_) fun _ _ z => z.elim
        obtain ⟨yv, H7, I7, r7, n7⟩ := h7
        obtain ⟨m', hm', w7⟩ := hNN yv H7 n7
        have p7 := I7.pin (D, lob its k) (List.mem_append_right _ (List.mem_append_left _ List.mem_cons_self))
        have hl := rv.length
        refine call_meets F.slot_list_append ⟨_, p7.1, rfl⟩ F.entry_list_append (F.args_list_append_2 _ _) (PySem.list_append D its.toArray k y (by rw [List.size_toArray]; omega)) ⟨p7.1, ?_⟩
        have q := PySem.IsL.update p7.1 (·.push y)
        have keepB : ∀ b o, b ≠ D → s7.heap.get? b = some o → (s7.heap.update D (Obj.mapSeq (·.push y))).get? b = some o := fun b o hb e => (Heap.get?_update_other s7.heap _ (Ne.symm hb)).trans e
        have I8 : Inv (compCx X scope N' cl C s2 H1 fp pins) (pinsAt fp h5) (some v :: capt ix σ) H7 s7 := I7.pins_of fun p hp => I7.pin p (List.mem_append_right _ (List.mem_append_right _ hp))
        have I9 : Inv (compCx X scope N' cl C s2 H1 fp pins) (pinsAt fp h5) (some v :: capt ix σ) H7 { s7 with heap := s7.heap.update D (Obj.mapSeq (·.push y)) } := I8.turned (t' := s7.toks) (it := D) keepB p7.2.1 hDC (.inr (by show s2.heap.objs.size ≤ D; rw [hDD]; exact Nat.le_refl _)) (fun a c e => (cellD a c (h1 _ _ e)).1) fun p hp z => by
          rcases List.mem_append.mp hp with z' | z'
          · exact (neP p z').1 z
          · exact DnF (by rw [← z]; exact (of_pinsAt z').1)
        refine ⟨m', hm', i + 1, ys ++ [yv], its ++ [y], (if (its.toArray.push y).size == its.toArray.size then k else k + 1), some v, H7, I9.pins_of (pins' := [(D, lob (its ++ [y]) ((if (its.toArray.push y).size == its.toArray.size then k else k + 1)))]) fun p hp => ?_, T.keep _ _ _ st5 fun b hb o e => ?_, fun b hb => ?_, w7, rv.append (.cons r7 .nil)⟩
        · have e : p = (D, lob (its ++ [y]) ((if (its.toArray.push y).size == its.toArray.size then k else k + 1))) := by simpa using hp
          subst e
          refine ⟨by rw [q, List.push_toArray], p7.2.1, hDC, DnS D (Nat.le_refl _), fun v z => by cases z⟩
        · have pb := I7.pin (b, o) (List.mem_append_right _ (List.mem_append_right _ (mem_pinsAt hb e)))
          exact keepB b o (fun z => DnF (by rw [← z]; exact hb)) pb.1
        · obtain ⟨o, e, d⟩ := T.obj _ _ st5 b hb
          exact (I7.pin (b, o) (List.mem_append_right _ (List.mem_append_right _ (mem_pinsAt hb e)))).2.1
    · exact I3.pins_of fun p hp => by
        have e : p = (D, lob [] 0) := by simpa using hp
        subst e
        exact ⟨hacc, I2.hok.fresh (by rw [hDD]; exact Nat.le_refl _), hDC, DnS D (Nat.le_refl _), fun v z => by cases z⟩
  exact codeAny_compStart_list (loop _ rfl) (T.self _ 0 _ _ _ (T.keep _ _ _ st2 fun b hb o e => old b o e) (loop _ rfl))
/-- a comprehension as a value -/
theorem pe_compS (S : CompSc X scope x ix N') (hN : N'.Nodup) (hc : X.calm = true) (hi : PI X (.Name x px) iter wi) (helt : ∀ cl C s2 H2 fp pins, PE (compCx X scope N' cl C s2 H2 fp pins) elt te)
    (hs : ∀ x, foldedSetIterable iter X.env x = pure x) : PE X (.ListComp elt [⟨.Name x px, iter, [], 0⟩] scope pos) (tComp wi ix te) := by
  intro pins s σ H Q I h
  obtain ⟨cl, hcl, h1, h2⟩ := closure_of (scope := scope) (env := X.env) (fun y hy hk => I.ok.has y.1 (S.free y hy hk))
  rw [eval_ListComp]
  refine wpAny_comprehension_free (use := none) rfl hs hcl S.kind S.names (wpAny_mono (hi pins s σ H _ I h) (fun xv s₁ h₁ => wpAny_mono h₁ (fun it s₂ h₂ => ?_) fun _ _ e => e) fun _ _ e => e)
  exact comp_run S hN hc helt h₂ h1 h2 fun D C H' s1 m hn fC c1 c2 c3 c4 hI q => ⟨m, hn, fun h' hs' => ⟨.ref D, H', hI h' hs', rfl, q⟩⟩
/-- name = a comprehension, stored ahead of the block's end -/
theorem ps_setCS {i : Nat} {y : Str} {py spos : Pos} (S : CompSc X scope x ix N') (hN : N'.Nodup) (hc : X.calm = true) (hi : PI X (.Name x px) iter wi) (helt : ∀ cl C s2 H2 fp pins, PE (compCx X scope N' cl C s2 H2 fp pins) elt te)
    (hs : ∀ x, foldedSetIterable iter X.env x = pure x) (hN0 : X.N.Nodup) (hi0 : X.N[i]? = some y) (hy : X.env.scope.names.lookup y = some .local) (hsw : swapsWith (.ListComp elt [⟨.Name x px, iter, [], 0⟩] scope pos) (some (.Name y py)) spos.line X.env = pure true) :
    PS X (.Assign [.Name y py] (.ListComp elt [⟨.Name x px, iter, [], 0⟩] scope pos) spos) (tAsg (tComp wi ix te) (gName i)) := by
  intro pins s σ H D I h
  obtain ⟨cl, hcl, h1, h2⟩ := closure_of (scope := scope) (env := X.env) (fun y hy hk => I.ok.has y.1 (S.free y hy hk))
  rw [exec_Assign_Name_used _ _ _ _ hsw]
  refine wpAny_bind (wpAny_standAt (wpAny_bind ?_))
  show wpAny _ X.A (do let _ ← comprehension (.ListComp elt [⟨.Name x px, iter, [], 0⟩] scope pos) scope X.env _ (newList []) false (eval iter X.env) (some (assign (.Name y py) X.env))) _ _ s
  refine wpAny_bind (wpAny_mono (wpAny_comprehension_free (use := some (assign (.Name y py) X.env)) (Q := fun _ s' => SP X pins D .next s') rfl hs hcl S.kind S.names
    (wpAny_mono (hi pins s σ H _ I h) (fun xv s₁ h₁ => wpAny_mono h₁ (fun it s₂ h₂ => ?_) fun _ _ e => e) fun _ _ e => e)) (fun _ s' hq => wpAny_pure (wpAny_pure hq)) fun _ _ e => e)
  refine comp_run S hN hc helt h₂ h1 h2 fun A C H' s1 m hn fC c1 c2 c3 c4 hI q => ?_
  have I1 : Inv X pins σ H' s1 := hI s1.heap (.refl ..)
  refine wpAny_assign_Name (store_ok2 I1 hN0 hi0 (.inl hy) (show RelV (.ref A) (.ref A) from rfl) (fun s3 I3 ch => ?_) (.inr hy))
  obtain ⟨a, hs3, ha⟩ := ch
  have hCa : C ≠ a := by
    rcases ha with z | z
    · rw [z]; exact c2
    · intro e; exact c3 y a z e.symm
  refine ⟨m, hn.sameBut hs3 hCa, fun h' hs' => ?_⟩
  exact ⟨_, H', I3.turned (t' := s3.toks) (it := C) (fun b o hb e => (hs'.2 b hb).trans e) fC c2 (.inr c1) c3 c4, q⟩
end
/-! ### what the scopes must be, checked -/
def relN (sc scope : Scope) : List (Str × NameKind) := scope.names.map fun (n, k) => if (k == .free && sc.kind == .function && sc.names.lookup n == some .cell) then (n, .cell) else (n, k)
def compChk (sc scope : Scope) (N : List Str) (x : Str) (ix : List Nat) (N' : List Str) : Bool :=
  (scope.kind == .function) && scope.names.all (fun y => !(y.2 == .cell)) && scope.names.all (fun y => !(y.2 == .local) || (scope.names.lookup y.1 == some .local)) && (scope.names.lookup x == some .local)
  && scope.names.all (fun y => !(y.2 == .free) || (sc.names.lookup y.1 == some .cell || sc.names.lookup y.1 == some .free))
  && (relN sc scope).all (fun y => !(y.2 == .cell || y.2 == .free) || scope.names.any (fun z => z.1 == y.1 && z.2 == .free))
  && (N' == x :: ix.map fun j => N.getD j "") && ix.all (fun j => decide (j < N.length) && scope.names.any (fun z => z.1 == N.getD j "" && z.2 == .free) && ((relN sc scope).lookup (N.getD j "") == some .cell || (relN sc scope).lookup (N.getD j "") == some .free))
theorem lookup_mem {n : Str} {k : NameKind} : ∀ {l : List (Str × NameKind)}, l.lookup n = some k → (n, k) ∈ l
  | [], h => by simp at h
  | (a, b) :: r, h => by
    rw [List.lookup_cons] at h
    cases e : n == a with
    | true => rw [e] at h; cases h; rw [eq_of_beq e]; exact List.mem_cons_self
    | false => rw [e] at h; exact List.mem_cons_of_mem _ (lookup_mem h)
theorem compSc_of {sc scope : Scope} {N : List Str} {x : Str} {ix : List Nat} {N' : List Str} (h : compChk sc scope N x ix N' = true) (e1 : X.env.scope = sc) (e2 : X.N = N) : CompSc X scope x ix N' := by
  subst e1 e2
  unfold compChk at h
  simp only [Bool.and_eq_true, List.all_eq_true, Bool.or_eq_true, Bool.not_eq_true', List.any_eq_true, decide_eq_true_eq, beq_iff_eq, beq_eq_false_iff_ne] at h
  obtain ⟨⟨⟨⟨⟨⟨⟨a1, a2⟩, a3⟩, a4⟩, a5⟩, a6⟩, a7⟩, a8⟩ := h
  refine ⟨a1, a2, fun y hy hk => (a3 y hy).elim (fun z => absurd hk z) id, a4, fun y hy hk => (a5 y hy).elim (fun z => absurd hk z) id, fun n _ hn => ?_, a7, fun j hj => ?_⟩
  · have : ∃ k, (n, k) ∈ relN X.env.scope scope ∧ (k = NameKind.cell ∨ k = NameKind.free) := by
      rcases hn with z | z
      · exact ⟨_, lookup_mem z, .inl rfl⟩
      · exact ⟨_, lookup_mem z, .inr rfl⟩
    obtain ⟨k, hk, hk2⟩ := this
    rcases a6 (n, k) hk with z | ⟨z, hz, e1, e2⟩
    · exfalso
      simp at z
      rcases hk2 with q | q
      · exact z.1 q
      · exact z.2 q
    · obtain ⟨z1, z2⟩ := z
      cases e1; cases e2; exact hz
  · obtain ⟨⟨b1, ⟨z, hz, e1, e2⟩⟩, b3⟩ := a8 j hj
    refine ⟨b1, ?_, b3⟩
    obtain ⟨z1, z2⟩ := z
    cases e2
    have e1' : z1 = X.N.getD j "" := e1
    rw [← e1']; exact hz
theorem cb_range {lo : Int} {n : Nat} {ix : List Nat} {te : TE} {σ : St} {H : Hp} {Q : VK} (Pv : Nat → List V → Hp → Prop) (hn : n ≤ 100000) (h0 : Pv 0 [] H) (hl : ∀ i ys H, Pv i ys H → ys.length = i)
    (hs : ∀ i ys H, i < n → Pv i ys H → te (some (.int (lo + i)) :: capt ix σ) H fun y H2 => Pv (i + 1) (ys ++ [y]) H2) (hd : ∀ ys H, Pv n ys H → ∀ p, H p = none → Q (.ref p) (upd H p (.lst ys))) : cBlock (Itr lo n) ix te σ H Q := by
  refine ⟨fun i m ys H => m = n - i ∧ i ≤ n ∧ Pv i ys H, ⟨n, by simp, Nat.zero_le _, h0⟩, ?_⟩
  rintro i m ys H ⟨rfl, hi, p⟩
  have hz := hl i ys H p
  have big : (100000 : Nat) < sizeLine := by decide
  refine ⟨by omega, ?_⟩
  by_cases hlt : i < n
  · refine .inr ⟨hlt, by omega, fun y H2 => Pv (i + 1) (ys ++ [y]) H2, fun y H2 p' => ⟨n - (i + 1), by omega, rfl, hlt, p'⟩, fun v H' y => ?_⟩
    obtain ⟨e, y⟩ := y
    subst e y
    exact hs i ys _ hlt p
  · have e : i = n := by omega
    subst e
    exact .inl ⟨Nat.le_refl _, hd ys H p⟩
theorem cb_list {K : PySem.W.Frag} {a : Addr} {xs : List V} {ix : List Nat} {te : TE} {σ : St} {H : Hp} {Q : VK} (Pv : Nat → List V → Hp → Prop) (hn : xs.length ≤ 100000) (h0 : Pv 0 [] H) (hl : ∀ i ys H, Pv i ys H → ys.length = i ∧ SqL K H a xs)
    (hs : ∀ i x ys H, xs[i]? = some x → Pv i ys H → te (some x :: capt ix σ) H fun y H2 => Pv (i + 1) (ys ++ [y]) H2) (hd : ∀ ys H, Pv xs.length ys H → ∀ p, H p = none → Q (.ref p) (upd H p (.lst ys))) : cBlock (Itl K a) ix te σ H Q := by
  refine ⟨fun i m ys H => m = xs.length - i ∧ i ≤ xs.length ∧ Pv i ys H, ⟨xs.length, by simp, Nat.zero_le _, h0⟩, ?_⟩
  rintro i m ys H ⟨rfl, hi, p⟩
  obtain ⟨hz, q⟩ := hl i ys H p
  have big : (100000 : Nat) < sizeLine := by decide
  refine ⟨by omega, ?_⟩
  by_cases hlt : i < xs.length
  · refine .inr ⟨⟨xs, xs[i], q, by simp [hlt]⟩, by omega, fun y H2 => Pv (i + 1) (ys ++ [y]) H2, fun y H2 p' => ⟨xs.length - (i + 1), by omega, rfl, hlt, p'⟩, fun v H' y => ?_⟩
    obtain ⟨e, y⟩ := y
    subst e
    exact hs i v ys _ (y xs q) p
  · have e : i = xs.length := by omega
    subst e
    exact .inl ⟨⟨xs, q, Nat.le_refl _⟩, hd ys H p⟩
section
variable {scope : Scope} {x : Str} {elt iter : Expr} {px pos : Pos} {wi : TI} {te : TE}
theorem pe_comp (sc : Scope) (N : List Str) (ix : List Nat) (N' : List Str) (hi : PI X (.Name x px) iter wi) (helt : ∀ cl C s2 H2 fp pins, PE (compCx X scope N' cl C s2 H2 fp pins) elt te) (hk : compChk sc scope N x ix N' = true := by decide +kernel) (hN : N'.Nodup := by decide +kernel)
    (e1 : X.env.scope = sc := by rfl) (e2 : X.N = N := by rfl) (hc : X.calm = true := by rfl) (hs : ∀ x, foldedSetIterable iter X.env x = pure x := by intro _; rfl) : PE X (.ListComp elt [⟨.Name x px, iter, [], 0⟩] scope pos) (tComp wi ix te) :=
  pe_compS (compSc_of hk e1 e2) hN hc hi helt hs
theorem ps_setC {i : Nat} {y : Str} {py spos : Pos} (sc : Scope) (N : List Str) (ix : List Nat) (N' : List Str) (hN0 : X.N.Nodup) (hi0 : X.N[i]? = some y) (hy : X.env.scope.names.lookup y = some .local) (hi : PI X (.Name x px) iter wi) (helt : ∀ cl C s2 H2 fp pins, PE (compCx X scope N' cl C s2 H2 fp pins) elt te) (hk : compChk sc scope N x ix N' = true := by decide +kernel) (hN : N'.Nodup := by decide +kernel)
    (e1 : X.env.scope = sc := by rfl) (e2 : X.N = N := by rfl) (hc : X.calm = true := by rfl) (hs : ∀ x, foldedSetIterable iter X.env x = pure x := by intro _; rfl) (hsw : swapsWith (.ListComp elt [⟨.Name x px, iter, [], 0⟩] scope pos) (some (.Name y py)) spos.line X.env = pure true := by rfl) :
    PS X (.Assign [.Name y py] (.ListComp elt [⟨.Name x px, iter, [], 0⟩] scope pos) spos) (tAsg (tComp wi ix te) (gName i)) := ps_setCS (compSc_of hk e1 e2) hN hc hi helt hs hN0 hi0 hy hsw
end
end
end L2

/-! MY OWN: == and != of made data -/
namespace L2
open PySem PySem.Spec PyProof.Rows
mutual
inductive IsD (K : PySem.W.Frag) (H : Hp) : V → PyData → Prop
  | non : IsD K H .non .none
  | int (i : Int) : IsD K H (.int i) (.int i)
  | str (x : Str) : IsD K H (.str x) (.str x)
  | lst {a : Addr} {xs : List V} {ds : List PyData} : SqL K H a xs → IsDs K H xs ds → IsD K H (.ref a) (.list ds)
  | tup {a : Addr} {xs : List V} {ds : List PyData} : SqT K H a xs → IsDs K H xs ds → IsD K H (.ref a) (.tuple ds)
inductive IsDs (K : PySem.W.Frag) (H : Hp) : List V → List PyData → Prop
  | nil : IsDs K H [] []
  | cons {x : V} {xs : List V} {d : PyData} {ds : List PyData} : IsD K H x d → IsDs K H xs ds → IsDs K H (x :: xs) (d :: ds)
end
section
variable {X : Cx} {pins : List (Addr × Obj)} {σ : St} {H : Hp} {s : Shared}
mutual
theorem IsD.reads (I : Inv X pins σ H s) : ∀ {x : V} {d : PyData} {u : Value}, IsD X.K H x d → RelV x u → ∃ as, Reads s.heap u d as
  | _, _, _, .non, r => by cases (show _ = Value.none from r); exact ⟨_, .none⟩
  | _, _, _, .int i, r => by obtain ⟨t, rfl⟩ := r; exact ⟨_, .int i t⟩
  | _, _, _, .str x, r => by obtain ⟨t, rfl⟩ := r; exact ⟨_, .str x t⟩
  | _, _, _, .lst (a := a) hq h, r => by
    cases (show _ = Value.ref a from r)
    obtain ⟨its, rv, ⟨o, n, h1, h2, _, h3⟩, _⟩ := I.list hq
    obtain ⟨as, q⟩ := IsDs.reads I h rv
    exact ⟨_, .list h1 h2 h3 (by simpa using q)⟩
  | _, _, _, .tup (a := a) hq h, r => by
    cases (show _ = Value.ref a from r)
    obtain ⟨its, rv, ⟨o, h1, h2, n, h3⟩, _⟩ := I.tuple hq
    obtain ⟨as, q⟩ := IsDs.reads I h rv
    exact ⟨_, .tuple h1 h2 h3 (by simpa using q)⟩
theorem IsDs.reads (I : Inv X pins σ H s) : ∀ {xs : List V} {ds : List PyData} {us : List Value}, IsDs X.K H xs ds → Vals xs us → ∃ as, ReadsAll s.heap us ds as
  | _, _, _, .nil, .nil => ⟨_, .nil⟩
  | _, _, _, .cons h hs, .cons r rs => by
    obtain ⟨as, q⟩ := IsD.reads I h r
    obtain ⟨bs, qs⟩ := IsDs.reads I hs rs
    exact ⟨_, .cons q qs⟩
end
end
section
variable {X : Cx}
def rEqD (K : PySem.W.Frag) (neg : Bool) : R2 := fun x y H Q => ∃ d e, IsD K H x d ∧ IsD K H y e ∧ SeqAt.shaped d = true ∧ SeqAt.shaped e = true ∧ Q (.bl (if neg = true then !PyData.eqv d e else PyData.eqv d e)) H
theorem op_eqD {k : Nat} (hr : Room k X.A) : OpR X (compareOp .Eq) (rEqD X.K false) := by
  intro pins s σ H x y v u Q I rx ry h
  obtain ⟨d, e, h1, h2, s1, s2, q⟩ := h
  obtain ⟨as, r1⟩ := h1.reads I rx
  obtain ⟨bs, r2⟩ := h2.reads I ry
  exact eq_dataH r1 r2 s1 s2 hr.units ⟨.bl _, H, I, rfl, q⟩
theorem op_neD {k : Nat} (hr : Room k X.A) : OpR X (compareOp .NotEq) (rEqD X.K true) := by
  intro pins s σ H x y v u Q I rx ry h
  obtain ⟨d, e, h1, h2, s1, s2, q⟩ := h
  obtain ⟨as, r1⟩ := h1.reads I rx
  obtain ⟨bs, r2⟩ := h2.reads I ry
  exact ne_dataH r1 r2 s1 s2 hr.units ⟨.bl _, H, I, rfl, q⟩
end
mutual
theorem IsD.same {K : PySem.W.Frag} {H H' : Hp} (e : Same H H') : ∀ {x : V} {d : PyData}, IsD K H x d → IsD K H' x d
  | _, _, .non => .non
  | _, _, .int i => .int i
  | _, _, .str x => .str x
  | _, _, .lst hq h => .lst (e.seq hq) (IsDs.same e h)
  | _, _, .tup hq h => .tup (e.tup hq) (IsDs.same e h)
theorem IsDs.same {K : PySem.W.Frag} {H H' : Hp} (e : Same H H') : ∀ {xs : List V} {ds : List PyData}, IsDs K H xs ds → IsDs K H' xs ds
  | _, _, .nil => .nil
  | _, _, .cons h hs => .cons (IsD.same e h) (IsDs.same e hs)
end
/-! ### fractions and polynomials as data -/
abbrev Fr2 := Int × Int
def dF (q : Fr2) : PyData := .tuple [.int q.1, .int q.2]
def dP (l : List Fr2) : PyData := .list (l.map dF)
def dPs (ls : List (List Fr2)) : PyData := .list (ls.map dP)
theorem eqv_dF (a b : Fr2) : PyData.eqv (dF a) (dF b) = decide (a = b) := by
  obtain ⟨a1, a2⟩ := a
  obtain ⟨b1, b2⟩ := b
  simp only [dF, PyData.eqv, PyData.eqvAll, Bool.and_true, Prod.mk.injEq]
  rw [Bool.eq_iff_iff]; simp
theorem eqvAll_dF : ∀ l m : List Fr2, PyData.eqvAll (l.map dF) (m.map dF) = decide (l = m)
  | [], [] => rfl
  | [], _ :: _ => rfl
  | _ :: _, [] => rfl
  | a :: l, b :: m => by
    rw [List.map_cons, List.map_cons, PyData.eqvAll, eqv_dF, eqvAll_dF l m, Bool.eq_iff_iff]
    simp
theorem eqv_dP (l m : List Fr2) : PyData.eqv (dP l) (dP m) = decide (l = m) := by
  unfold dP; rw [PyData.eqv]; exact eqvAll_dF l m
theorem eqv_dPs : ∀ l m : List (List Fr2), PyData.eqv (dPs l) (dPs m) = decide (l = m) := by
  have go : ∀ l m : List (List Fr2), PyData.eqvAll (l.map dP) (m.map dP) = decide (l = m) := by
    intro l
    induction l with
    | nil => intro m; cases m <;> rfl
    | cons a l ih =>
      intro m
      cases m with
      | nil => rfl
      | cons b m =>
        rw [List.map_cons, List.map_cons, PyData.eqvAll, eqv_dP, ih m, Bool.eq_iff_iff]
        simp
  intro l m
  unfold dPs; rw [PyData.eqv]; exact go l m
theorem lay_dF (q : Fr2) : (dF q).canLay0 = true ∧ (dF q).depth ≤ 3 := ⟨by simp [dF, PyData.canLay0, PyData.canLayAll0], by simp [dF, PyData.depth, PyData.depthAll]⟩
theorem lay_all {α : Type} {f : α → PyData} {n : Nat} (h : ∀ a, (f a).canLay0 = true ∧ (f a).depth ≤ n) : ∀ l : List α, PyData.canLayAll0 (l.map f) = true ∧ PyData.depthAll (l.map f) ≤ n
  | [] => ⟨rfl, Nat.zero_le _⟩
  | a :: l => by
    obtain ⟨h1, h2⟩ := h a
    obtain ⟨h3, h4⟩ := lay_all h l
    refine ⟨by rw [List.map_cons, PyData.canLayAll0, h1, h3]; rfl, ?_⟩
    rw [List.map_cons, PyData.depthAll]
    exact Nat.max_le.mpr ⟨h2, h4⟩
theorem lay_dP (l : List Fr2) : (dP l).canLay0 = true ∧ (dP l).depth ≤ 4 := by
  obtain ⟨h1, h2⟩ := lay_all lay_dF l
  exact ⟨by unfold dP; rw [PyData.canLay0]; exact h1, by unfold dP; rw [PyData.depth]; omega⟩
theorem lay_dPs (l : List (List Fr2)) : (dPs l).canLay0 = true ∧ (dPs l).depth ≤ 5 := by
  obtain ⟨h1, h2⟩ := lay_all lay_dP l
  exact ⟨by unfold dPs; rw [PyData.canLay0]; exact h1, by unfold dPs; rw [PyData.depth]; omega⟩
theorem sh_dF (q : Fr2) : SeqAt.shaped (dF q) = true := by obtain ⟨a, b⟩ := lay_dF q; unfold SeqAt.shaped; rw [a]; simp; omega
theorem sh_dP (q : List Fr2) : SeqAt.shaped (dP q) = true := by obtain ⟨a, b⟩ := lay_dP q; unfold SeqAt.shaped; rw [a]; simp; omega
theorem sh_dPs (q : List (List Fr2)) : SeqAt.shaped (dPs q) = true := by obtain ⟨a, b⟩ := lay_dPs q; unfold SeqAt.shaped; rw [a]; simp; omega
/-- the value is the fraction -/
def FV (K : PySem.W.Frag) (H : Hp) (x : V) (q : Fr2) : Prop := ∃ p, x = .ref p ∧ SqT K H p [.int q.1, .int q.2]
theorem FV.mk1 {K : PySem.W.Frag} {H : Hp} {p : Addr} {a b : Int} (h : SqT K H p [.int a, .int b]) : FV K H (.ref p) (a, b) := ⟨p, rfl, h⟩
theorem FV.same {K : PySem.W.Frag} {H H' : Hp} (e : Same H H') {x : V} {q : Fr2} (h : FV K H x q) : FV K H' x q := let ⟨p, a, b⟩ := h; ⟨p, a, e.tup b⟩
theorem FV.updL {K : PySem.W.Frag} {H : Hp} {x : V} {q : Fr2} {l : Addr} {ys zs : List V} (h : FV K H x q) (hl : H l = some (.lst ys)) : FV K (upd H l (.lst zs)) x q := let ⟨p, a, b⟩ := h; ⟨p, a, tup_upd b hl⟩
theorem FV.isD {K : PySem.W.Frag} {H : Hp} {x : V} {q : Fr2} (h : FV K H x q) : IsD K H x (dF q) := by
  obtain ⟨p, rfl, b⟩ := h
  exact .tup b (.cons (.int _) (.cons (.int _) .nil))
/-- the values are the fractions -/
abbrev FVs (K : PySem.W.Frag) (H : Hp) : List V → List Fr2 → Prop := Paired (FV K H)
theorem FVs.same {K : PySem.W.Frag} {H H' : Hp} (e : Same H H') {xs : List V} {l : List Fr2} (h : FVs K H xs l) : FVs K H' xs l := Paired.mapP h fun _ _ => FV.same e
theorem FVs.updL {K : PySem.W.Frag} {H : Hp} {xs : List V} {l : List Fr2} {a : Addr} {ys zs : List V} (h : FVs K H xs l) (hl : H a = some (.lst ys)) : FVs K (upd H a (.lst zs)) xs l := Paired.mapP h fun _ _ z => z.updL hl
theorem FVs.isDs {K : PySem.W.Frag} {H : Hp} : ∀ {xs : List V} {l : List Fr2}, FVs K H xs l → IsDs K H xs (l.map dF)
  | _, _, .nil => .nil
  | _, _, .cons h hs => .cons h.isD (FVs.isDs hs)
theorem FVs.len {K : PySem.W.Frag} {H : Hp} {xs : List V} {l : List Fr2} (h : FVs K H xs l) : xs.length = l.length := Paired.length h
theorem Paired.get {α β : Type} {F : α → β → Prop} : ∀ {xs : List α} {ys : List β} {i : Nat} {y : β}, Paired F xs ys → ys[i]? = some y → ∃ x, xs[i]? = some x ∧ F x y
  | _, _, _, _, .nil, e => by simp at e
  | _, _, 0, _, .cons r _, e => by simp at e; subst e; exact ⟨_, rfl, r⟩
  | _, _, i + 1, y, .cons _ t, e => by
    obtain ⟨u, h1, h2⟩ := Paired.get (i := i) (y := y) t (by simpa using e)
    exact ⟨u, by simpa using h1, h2⟩
theorem Paired.app {α β : Type} {F : α → β → Prop} : ∀ {xs xs' : List α} {ys ys' : List β}, Paired F xs ys → Paired F xs' ys' → Paired F (xs ++ xs') (ys ++ ys')
  | _, _, _, _, .nil, s => s
  | _, _, _, _, .cons r t, s => .cons r (Paired.app t s)
theorem Paired.dropLast {α β : Type} {F : α → β → Prop} : ∀ {xs : List α} {ys : List β}, Paired F xs ys → Paired F xs.dropLast ys.dropLast
  | _, _, .nil => .nil
  | _, _, .cons _ .nil => .nil
  | _, _, .cons r (.cons r' t) => .cons r (Paired.dropLast (.cons r' t))
theorem Paired.takeP {α β : Type} {F : α → β → Prop} : ∀ {xs : List α} {ys : List β} (n : Nat), Paired F xs ys → Paired F (xs.take n) (ys.take n)
  | _, _, 0, _ => .nil
  | _, _, _ + 1, .nil => .nil
  | _, _, n + 1, .cons r t => .cons r (Paired.takeP n t)
theorem Paired.dropP {α β : Type} {F : α → β → Prop} : ∀ {xs : List α} {ys : List β} (n : Nat), Paired F xs ys → Paired F (xs.drop n) (ys.drop n)
  | _, _, 0, r => r
  | _, _, _ + 1, .nil => .nil
  | _, _, n + 1, .cons _ t => Paired.dropP n t
/-- the list at p holds the polynomial -/
def PL (K : PySem.W.Frag) (H : Hp) (p : Addr) (l : List Fr2) : Prop := ∃ xs, SqL K H p xs ∧ FVs K H xs l
theorem PL.same {K : PySem.W.Frag} {H H' : Hp} (e : Same H H') {p : Addr} {l : List Fr2} (h : PL K H p l) : PL K H' p l := let ⟨xs, a, b⟩ := h; ⟨xs, e.seq a, FVs.same e b⟩
theorem PL.isD {K : PySem.W.Frag} {H : Hp} {p : Addr} {l : List Fr2} (h : PL K H p l) : IsD K H (.ref p) (dP l) := let ⟨_, a, b⟩ := h; .lst a b.isDs
theorem atI_neg1 {α : Type} {xs : List α} {v : α} (h : xs[xs.length - 1]? = some v) : atI xs (-1) = some v := by
  have hl : 0 < xs.length := by
    have := (List.getElem?_eq_some_iff.mp h).1
    omega
  have e : ixN xs.length (-1) = some (xs.length - 1) := by
    unfold ixN
    rw [if_neg (by decide), if_pos (by omega)]
    congr 1
    omega
  unfold atI
  rw [e]
  exact h
end L2

/-! MY OWN: a def read as a pure function over data. Lists that a def changes are its own (hidden from all else); every other thing that is read stays as it is. -/
namespace L2
open PySem PySem.Spec PyProof.Rows
abbrev D := PyData
abbrev DS := List (Option D)
/-! ### the heap without some addresses -/
def wo (H : Hp) (A : List Addr) : Hp := fun a => if a ∈ A then none else H a
section
variable {K : PySem.W.Frag} {H H' : Hp} {A A' : List Addr} {a l p r : Addr} {o : HO}
theorem wo_out (h : a ∉ A) : wo H A a = H a := by unfold wo; rw [if_neg h]
theorem wo_in (h : a ∈ A) : wo H A a = none := by unfold wo; rw [if_pos h]
theorem wo_some (h : wo H A a = some o) : a ∉ A ∧ H a = some o := by
  unfold wo at h
  split at h
  · cases h
  · exact ⟨by assumption, h⟩
theorem wo_same : Same (wo H A) H := fun _ _ h => (wo_some h).2
theorem wo_mono (s : Same H H') : Same (wo H A) (wo H' A) := fun b u h => by
  obtain ⟨h1, h2⟩ := wo_some h
  rw [wo_out h1]; exact s b u h2
theorem wo_sub (h : ∀ a ∈ A', a ∈ A) : Same (wo H A) (wo H A') := fun b u q => by
  obtain ⟨h1, h2⟩ := wo_some q
  rw [wo_out fun z => h1 (h b z)]; exact h2
theorem wo_nil : wo H [] = H := by funext a; exact wo_out (by simp)
theorem wo_new (h : p ∉ A) : wo (upd H p o) A = upd (wo H A) p o := by
  funext a
  by_cases e : a = p
  · subst e; rw [wo_out h, upd_same, upd_same]
  · rw [upd_ne e]
    by_cases z : a ∈ A
    · rw [wo_in z, wo_in z]
    · rw [wo_out z, wo_out z, upd_ne e]
theorem wo_own (h : l ∈ A) : wo (upd H l o) A = wo H A := by
  funext a
  by_cases z : a ∈ A
  · rw [wo_in z, wo_in z]
  · rw [wo_out z, wo_out z, upd_ne]
    intro e; subst e; exact z h
theorem wo_cons_new (h : H r = none) : wo (upd H r o) (r :: A) = wo H A := by
  funext a
  by_cases e : a = r
  · subst e
    rw [wo_in (by simp)]
    by_cases z : a ∈ A
    · rw [wo_in z]
    · rw [wo_out z, h]
  · by_cases z : a ∈ A
    · rw [wo_in (by simp [z]), wo_in z]
    · rw [wo_out (by simp [e, z]), wo_out z, upd_ne e]
/-- one more is hidden that was not there yet -/
theorem wo_more (s : Same H H') (h : H r = none) : Same (wo H A) (wo H' (r :: A)) := fun b u q => by
  obtain ⟨h1, h2⟩ := wo_some q
  rw [wo_out (by simp only [List.mem_cons, not_or]; exact ⟨ne_of_none h2 h, h1⟩)]
  exact s b u h2
/-- all that is hidden is lists -/
def Ls (A : List Addr) (H : Hp) : Prop := ∀ a ∈ A, ∃ ys, H a = some (.lst ys)
theorem Ls.same (h : Ls A H) (s : Same H H') : Ls A H' := fun a ha => let ⟨ys, e⟩ := h a ha; ⟨ys, s _ _ e⟩
theorem Ls.free (h : Ls A H) (n : H p = none) : p ∉ A := fun z => by
  obtain ⟨ys, e⟩ := h p z
  rw [n] at e; cases e
end
/-! ### data in the heap -/
mutual
inductive HD (K : PySem.W.Frag) (H : Hp) : V → D → Prop
  | non : HD K H .non .none
  | bl (b : Bool) : HD K H (.bl b) (.bool b)
  | int (i : Int) : HD K H (.int i) (.int i)
  | str (x : Str) : HD K H (.str x) (.str x)
  | lst {a : Addr} {xs : List V} {ds : List D} : LsD K H a xs → HDs K H xs ds → HD K H (.ref a) (.list ds)
  | tup {a : Addr} {xs : List V} {ds : List D} : SqT K H a xs → HDs K H xs ds → HD K H (.ref a) (.tuple ds)
inductive HDs (K : PySem.W.Frag) (H : Hp) : List V → List D → Prop
  | nil : HDs K H [] []
  | cons {x : V} {xs : List V} {d : D} {ds : List D} : HD K H x d → HDs K H xs ds → HDs K H (x :: xs) (d :: ds)
end
theorem Same.rd {H H' : Hp} {a : Addr} {u : HO} (s : Same H H') (h : Rd H a u) : Rd H' a u := by
  rcases h with h | ⟨o, h⟩
  · exact .inl (s _ _ h)
  · exact .inr ⟨o, s _ _ h⟩
theorem LsD.of {K : PySem.W.Frag} {H : Hp} {a : Addr} {xs : List V} (h : H a = some (.lst xs)) : LsD K H a xs := .inl (.inl h)
theorem LsD.sq {K : PySem.W.Frag} {H : Hp} {a : Addr} {xs : List V} (h : LsD K H a xs) : SqL K H a xs := by
  rcases h with h | ⟨its, n, h1, h2, h3⟩
  · exact .inl h
  · exact .inr ⟨_, its.toArray, n, h1, rfl, rfl, rfl, by rw [List.size_toArray]; exact h2, by simpa using h3⟩
theorem LsD.same {K : PySem.W.Frag} {H H' : Hp} {a : Addr} {xs : List V} (s : Same H H') (h : LsD K H a xs) : LsD K H' a xs := by
  rcases h with h | h
  · exact .inl (s.rd h)
  · exact .inr h
theorem Inv.lsd {X : Cx} {pins : List (Addr × Obj)} {σ : St} {H : Hp} {s : Shared} {a : Addr} {xs : List V} (I : Inv X pins σ H s) (h : LsD X.K H a xs) : xs.length ≤ sizeLine ∧ ∃ (its : List Value) (n : Nat), Vals xs its ∧ s.heap.get? a = some { cls := .type "list", data := .seq its.toArray n } := by
  rcases h with h | ⟨its, n, h1, h2, h3⟩
  · exact h.ok I.hok
  · exact ⟨by rw [h3.length]; exact h2, its, n, h3, I.kIn a _ h1⟩
mutual
theorem HD.same {K : PySem.W.Frag} {H H' : Hp} (e : Same H H') : ∀ {x : V} {d : D}, HD K H x d → HD K H' x d
  | _, _, .non => .non
  | _, _, .bl b => .bl b
  | _, _, .int i => .int i
  | _, _, .str x => .str x
  | _, _, .lst hq h => .lst (hq.same e) (HDs.same e h)
  | _, _, .tup hq h => .tup (e.tup hq) (HDs.same e h)
theorem HDs.same {K : PySem.W.Frag} {H H' : Hp} (e : Same H H') : ∀ {xs : List V} {ds : List D}, HDs K H xs ds → HDs K H' xs ds
  | _, _, .nil => .nil
  | _, _, .cons h hs => .cons (HD.same e h) (HDs.same e hs)
end
section
variable {X : Cx} {pins : List (Addr × Obj)} {σ : St} {H : Hp} {s : Shared}
mutual
theorem HD.reads (I : Inv X pins σ H s) : ∀ {x : V} {d : D} {u : Value}, HD X.K H x d → RelV x u → ∃ as, Reads s.heap u d as
  | _, _, _, .non, r => by cases (show _ = Value.none from r); exact ⟨_, .none⟩
  | _, _, _, .bl b, r => by cases (show _ = Value.bool b from r); exact ⟨_, .bool b⟩
  | _, _, _, .int i, r => by obtain ⟨t, rfl⟩ := r; exact ⟨_, .int i t⟩
  | _, _, _, .str x, r => by obtain ⟨t, rfl⟩ := r; exact ⟨_, .str x t⟩
  | _, _, _, .lst (a := a) hq h, r => by
    cases (show _ = Value.ref a from r)
    obtain ⟨its, rv, ⟨o, n, h1, h2, _, h3⟩, _⟩ := I.list hq.sq
    obtain ⟨as, q⟩ := HDs.reads I h rv
    exact ⟨_, .list h1 h2 h3 (by simpa using q)⟩
  | _, _, _, .tup (a := a) hq h, r => by
    cases (show _ = Value.ref a from r)
    obtain ⟨its, rv, ⟨o, h1, h2, n, h3⟩, _⟩ := I.tuple hq
    obtain ⟨as, q⟩ := HDs.reads I h rv
    exact ⟨_, .tuple h1 h2 h3 (by simpa using q)⟩
theorem HDs.reads (I : Inv X pins σ H s) : ∀ {xs : List V} {ds : List D} {us : List Value}, HDs X.K H xs ds → Vals xs us → ∃ as, ReadsAll s.heap us ds as
  | _, _, _, .nil, .nil => ⟨_, .nil⟩
  | _, _, _, .cons h hs, .cons r rs => by
    obtain ⟨as, q⟩ := HD.reads I h r
    obtain ⟨bs, qs⟩ := HDs.reads I hs rs
    exact ⟨_, .cons q qs⟩
end
end
theorem HDs.len {K : PySem.W.Frag} {H : Hp} : ∀ {xs : List V} {ds : List D}, HDs K H xs ds → xs.length = ds.length
  | _, _, .nil => rfl
  | _, _, .cons _ t => by rw [List.length_cons, List.length_cons, HDs.len t]
theorem HDs.get {K : PySem.W.Frag} {H : Hp} : ∀ {xs : List V} {ds : List D} {i : Nat} {d : D}, HDs K H xs ds → ds[i]? = some d → ∃ x, xs[i]? = some x ∧ HD K H x d
  | _, _, _, _, .nil, e => by simp at e
  | _, _, 0, _, .cons r _, e => by simp at e; subst e; exact ⟨_, rfl, r⟩
  | _, _, i + 1, y, .cons _ t, e => by
    obtain ⟨u, h1, h2⟩ := HDs.get (i := i) (d := y) t (by simpa using e)
    exact ⟨u, by simpa using h1, h2⟩
theorem HDs.get' {K : PySem.W.Frag} {H : Hp} {xs : List V} {ds : List D} {i : Nat} {x : V} (h : HDs K H xs ds) (e : xs[i]? = some x) : ∃ d, ds[i]? = some d ∧ HD K H x d := by
  have hl := h.len
  have hi := (List.getElem?_eq_some_iff.mp e).1
  obtain ⟨x', e', q⟩ := h.get (List.getElem?_eq_getElem (show i < ds.length by omega))
  rw [e] at e'; cases e'
  exact ⟨_, List.getElem?_eq_getElem (by omega), q⟩
theorem HDs.app {K : PySem.W.Frag} {H : Hp} : ∀ {xs xs' : List V} {ds ds' : List D}, HDs K H xs ds → HDs K H xs' ds' → HDs K H (xs ++ xs') (ds ++ ds')
  | _, _, _, _, .nil, s => s
  | _, _, _, _, .cons r t, s => .cons r (HDs.app t s)
theorem HDs.takeD {K : PySem.W.Frag} {H : Hp} : ∀ {xs : List V} {ds : List D} (n : Nat), HDs K H xs ds → HDs K H (xs.take n) (ds.take n)
  | _, _, 0, _ => .nil
  | _, _, _ + 1, .nil => .nil
  | _, _, n + 1, .cons r t => .cons r (HDs.takeD n t)
theorem HDs.dropD {K : PySem.W.Frag} {H : Hp} : ∀ {xs : List V} {ds : List D} (n : Nat), HDs K H xs ds → HDs K H (xs.drop n) (ds.drop n)
  | _, _, 0, r => r
  | _, _, _ + 1, .nil => .nil
  | _, _, n + 1, .cons _ t => HDs.dropD n t
theorem HDs.setD {K : PySem.W.Frag} {H : Hp} {x : V} {d : D} (r : HD K H x d) : ∀ {xs : List V} {ds : List D} (i : Nat), HDs K H xs ds → HDs K H (xs.set i x) (ds.set i d)
  | _, _, _, .nil => .nil
  | _, _, 0, .cons _ t => .cons r t
  | _, _, i + 1, .cons q t => .cons q (HDs.setD r i t)
theorem HDs.rep {K : PySem.W.Frag} {H : Hp} {xs : List V} {ds : List D} (h : HDs K H xs ds) : ∀ k : Nat, HDs K H (List.replicate k xs).flatten (List.replicate k ds).flatten
  | 0 => .nil
  | k + 1 => by rw [List.replicate_succ, List.replicate_succ, List.flatten_cons, List.flatten_cons]; exact h.app (HDs.rep h k)
theorem HDs.rev {K : PySem.W.Frag} {H : Hp} : ∀ {xs : List V} {ds : List D}, HDs K H xs ds → HDs K H xs.reverse ds.reverse
  | _, _, .nil => .nil
  | _, _, .cons r t => by rw [List.reverse_cons, List.reverse_cons]; exact (HDs.rev t).app (.cons r .nil)
theorem HDs.dropLastD {K : PySem.W.Frag} {H : Hp} {xs : List V} {ds : List D} (h : HDs K H xs ds) : HDs K H xs.dropLast ds.dropLast := by
  rw [List.dropLast_eq_take, List.dropLast_eq_take, h.len]; exact h.takeD _
theorem HDs.ints {K : PySem.W.Frag} {H : Hp} : ∀ ns : List Int, HDs K H (ns.map V.int) (ns.map PyData.int)
  | [] => .nil
  | n :: ns => .cons (.int n) (HDs.ints ns)
theorem SqT.offL {K : PySem.W.Frag} {H : Hp} {A : List Addr} {a : Addr} {xs : List V} (h : SqT K H a xs) (al : Ls A H) : SqT K (wo H A) a xs := by
  rcases h with (h | ⟨o, h⟩) | h
  · refine .inl (.inl ?_)
    rw [wo_out fun z => ?_]; exact h
    obtain ⟨ys, e⟩ := al a z
    rw [h] at e; cases e
  · refine .inl (.inr ⟨o, ?_⟩)
    rw [wo_out fun z => ?_]; exact h
    obtain ⟨ys, e⟩ := al a z
    rw [h] at e; cases e
  · exact .inr h
/-! no list within -/
mutual
def noL : D → Bool
  | .list _ => false
  | .dict _ => false
  | .tuple ds => noLs ds
  | _ => true
def noLs : List D → Bool
  | [] => true
  | d :: ds => noL d && noLs ds
end
mutual
theorem HD.off {K : PySem.W.Frag} {H : Hp} {A : List Addr} (al : Ls A H) : ∀ {x : V} {d : D}, HD K H x d → noL d = true → HD K (wo H A) x d
  | _, _, .non, _ => .non
  | _, _, .bl b, _ => .bl b
  | _, _, .int i, _ => .int i
  | _, _, .str x, _ => .str x
  | _, _, .lst _ _, f => by simp [noL] at f
  | _, _, .tup hq h, f => .tup (hq.offL al) (HDs.off al h (by simpa [noL] using f))
theorem HDs.off {K : PySem.W.Frag} {H : Hp} {A : List Addr} (al : Ls A H) : ∀ {xs : List V} {ds : List D}, HDs K H xs ds → noLs ds = true → HDs K (wo H A) xs ds
  | _, _, .nil, _ => .nil
  | _, _, .cons h hs, f => by
    rw [noLs, Bool.and_eq_true] at f
    exact .cons (HD.off al h f.1) (HDs.off al hs f.2)
end
/-- a value whose own list may be hidden -/
def ShD (K : PySem.W.Frag) (A : List Addr) (H : Hp) (v : V) (d : D) : Prop := HD K (wo H A) v d ∨ ∃ l ys ds, v = .ref l ∧ d = .list ds ∧ H l = some (.lst ys) ∧ HDs K (wo H A) ys ds
section
variable {K : PySem.W.Frag} {H H' : Hp} {A A' : List Addr} {v : V} {d : D}
theorem ShD.of (h : HD K (wo H A) v d) : ShD K A H v d := .inl h
theorem ShD.same (s : Same H H') (h : ShD K A H v d) : ShD K A H' v d := by
  rcases h with h | ⟨l, ys, ds, rfl, rfl, e, q⟩
  · exact .inl (h.same (wo_mono s))
  · exact .inr ⟨l, ys, ds, rfl, rfl, s _ _ e, q.same (wo_mono s)⟩
theorem ShD.isD (h : ShD K A H v d) : HD K H v d := by
  rcases h with h | ⟨l, ys, ds, rfl, rfl, e, q⟩
  · exact h.same wo_same
  · exact .lst (.of e) (q.same wo_same)
theorem ShD.list {ds : List D} (h : ShD K A H v (.list ds)) : ∃ l ys, v = .ref l ∧ LsD K H l ys ∧ HDs K (wo H A) ys ds := by
  rcases h with h | ⟨l, ys, ds', rfl, e, q⟩
  · cases h with
    | lst hq h => exact ⟨_, _, rfl, hq.same wo_same, h⟩
  · cases e
    exact ⟨l, ys, rfl, .of q.1, q.2⟩
theorem ShD.tuple {ds : List D} (h : ShD K A H v (.tuple ds)) : ∃ l ys, v = .ref l ∧ SqT K H l ys ∧ HDs K (wo H A) ys ds := by
  rcases h with h | ⟨l, ys, ds', rfl, e, q⟩
  · cases h with
    | tup hq h => exact ⟨_, _, rfl, wo_same.tup hq, h⟩
  · cases e
theorem ShD.fz {ds : List D} (h : ShD K A H v (.tuple ds)) : HD K (wo H A) v (.tuple ds) := by
  rcases h with h | ⟨l, ys, ds', rfl, e, q⟩
  · exact h
  · cases e
theorem ShD.int {i : Int} (h : ShD K A H v (.int i)) : v = .int i := by
  rcases h with h | ⟨l, ys, ds', rfl, e, q⟩
  · cases h; rfl
  · cases e
theorem ShD.bool {b : Bool} (h : ShD K A H v (.bool b)) : v = .bl b := by
  rcases h with h | ⟨l, ys, ds', rfl, e, q⟩
  · cases h; rfl
  · cases e
theorem ShD.str {b : Str} (h : ShD K A H v (.str b)) : v = .str b := by
  rcases h with h | ⟨l, ys, ds', rfl, e, q⟩
  · cases h; rfl
  · cases e
theorem ShD.non (h : ShD K A H v .none) : v = .non := by
  rcases h with h | ⟨l, ys, ds', rfl, e, q⟩
  · cases h; rfl
  · cases e
end
/-! ### the state -/
/-- O: the slots whose lists are the def's own; U: the addresses of such lists; A0: what callers hide -/
structure Rel (K : PySem.W.Frag) (O : List Nat) (U A0 : List Addr) (σ : St) (δ : DS) (H : Hp) : Prop where
  len : σ.length = δ.length
  fz : ∀ (i : Nat) d, i ∉ O → δ[i]? = some (some d) → ∃ v, σ[i]? = some (some v) ∧ HD K (wo H (U ++ A0)) v d
  ow : ∀ (i : Nat) d, i ∈ O → δ[i]? = some (some d) → ∃ l ys ds, σ[i]? = some (some (.ref l)) ∧ d = .list ds ∧ l ∈ U ∧ H l = some (.lst ys) ∧ HDs K (wo H (U ++ A0)) ys ds
  inj : ∀ (i j : Nat) d e l, i ∈ O → j ∈ O → i ≠ j → δ[i]? = some (some d) → δ[j]? = some (some e) → σ[i]? = some (some (.ref l)) → σ[j]? = some (some (.ref l)) → False
  al : Ls (U ++ A0) H
section
variable {K : PySem.W.Frag} {O : List Nat} {U A0 : List Addr} {σ : St} {δ : DS} {H H' : Hp}
theorem Rel.same (R : Rel K O U A0 σ δ H) (s : Same H H') : Rel K O U A0 σ δ H' where
  len := R.len
  fz := fun i d hi e => let ⟨v, a, b⟩ := R.fz i d hi e; ⟨v, a, b.same (wo_mono s)⟩
  ow := fun i d hi e => let ⟨l, ys, ds, a, b, c, f, g⟩ := R.ow i d hi e; ⟨l, ys, ds, a, b, c, s _ _ f, g.same (wo_mono s)⟩
  inj := R.inj
  al := R.al.same s
/-- any slot -/
theorem Rel.at (R : Rel K O U A0 σ δ H) {i : Nat} {d : D} (e : δ[i]? = some (some d)) : ∃ v, σ[i]? = some (some v) ∧ ShD K (U ++ A0) H v d := by
  by_cases hi : i ∈ O
  · obtain ⟨l, ys, ds, a, rfl, c, f, g⟩ := R.ow i d hi e
    exact ⟨_, a, .inr ⟨l, ys, ds, rfl, rfl, f, g⟩⟩
  · obtain ⟨v, a, b⟩ := R.fz i d hi e
    exact ⟨v, a, .inl b⟩
/-- a slot that is not one's own is stored -/
theorem Rel.set (R : Rel K O U A0 σ δ H) {i : Nat} {v : V} {d : D} (hi : i ∉ O) (h : HD K (wo H (U ++ A0)) v d) : Rel K O U A0 (σ.set i (some v)) (δ.set i (some d)) H where
  len := by rw [List.length_set, List.length_set]; exact R.len
  fz := fun j e hj q => by
    by_cases hij : i = j
    · subst hij
      have hl : i < δ.length := by have := (List.getElem?_eq_some_iff.mp q).1; rwa [List.length_set] at this
      rw [List.getElem?_set_self hl] at q
      cases q
      exact ⟨v, List.getElem?_set_self (by rw [R.len]; exact hl), h⟩
    · rw [List.getElem?_set_ne hij] at q ⊢
      exact R.fz j e hj q
  ow := fun j e hj q => by
    have hij : i ≠ j := fun z => hi (z ▸ hj)
    rw [List.getElem?_set_ne hij] at q ⊢
    exact R.ow j e hj q
  inj := fun j k d e l hj hk hjk q1 q2 e1 e2 => by
    have hij : i ≠ j := fun z => hi (z ▸ hj)
    have hik : i ≠ k := fun z => hi (z ▸ hk)
    rw [List.getElem?_set_ne hij] at q1 e1
    rw [List.getElem?_set_ne hik] at q2 e2
    exact R.inj j k d e l hj hk hjk q1 q2 e1 e2
  al := R.al
/-- a slot of one's own gets a new list -/
theorem Rel.setN (R : Rel K O U A0 σ δ H) (s : Same H H') {i : Nat} {r : Addr} {ys : List V} {ds : List D} (hr : H r = none) (h : H' r = some (.lst ys)) (q : HDs K (wo H' (r :: (U ++ A0))) ys ds) (hi : i ∈ O) :
    Rel K O (r :: U) A0 (σ.set i (some (.ref r))) (δ.set i (some (.list ds))) H' where
  len := by rw [List.length_set, List.length_set]; exact R.len
  fz := fun j e hj q => by
    have hij : i ≠ j := fun z => hj (z ▸ hi)
    rw [List.getElem?_set_ne hij] at q ⊢
    obtain ⟨v, a, b⟩ := R.fz j e hj q
    exact ⟨v, a, b.same (wo_more s hr)⟩
  ow := fun j e hj w => by
    by_cases hij : i = j
    · subst hij
      have hl : i < δ.length := by have := (List.getElem?_eq_some_iff.mp w).1; rwa [List.length_set] at this
      rw [List.getElem?_set_self hl] at w
      cases w
      exact ⟨r, ys, ds, List.getElem?_set_self (by rw [R.len]; exact hl), rfl, by simp, h, q⟩
    · rw [List.getElem?_set_ne hij] at w ⊢
      obtain ⟨l, ys, ds, a, b, c, f, g⟩ := R.ow j e hj w
      exact ⟨l, ys, ds, a, b, by simp [c], s _ _ f, g.same (wo_more s hr)⟩
  inj := fun j k d e l hj hk hjk q1 q2 e1 e2 => by
    have len1 : ∀ {x : D}, (δ.set i (some (.list ds)))[i]? = some (some x) → i < δ.length := fun w => by have := (List.getElem?_eq_some_iff.mp w).1; rwa [List.length_set] at this
    by_cases hij : i = j
    · subst hij
      have hik : i ≠ k := hjk
      rw [List.getElem?_set_self (by rw [R.len]; exact len1 q1)] at e1
      rw [List.getElem?_set_ne hik] at q2 e2
      cases e1
      obtain ⟨l, ys, ds, a, b, c, f, g⟩ := R.ow k e hk q2
      rw [a] at e2; cases e2
      rw [hr] at f; cases f
    · by_cases hik : i = k
      · subst hik
        rw [List.getElem?_set_self (by rw [R.len]; exact len1 q2)] at e2
        rw [List.getElem?_set_ne hij] at q1 e1
        cases e2
        obtain ⟨l, ys, ds, a, b, c, f, g⟩ := R.ow j d hj q1
        rw [a] at e1; cases e1
        rw [hr] at f; cases f
      · rw [List.getElem?_set_ne hij] at q1 e1
        rw [List.getElem?_set_ne hik] at q2 e2
        exact R.inj j k d e l hj hk hjk q1 q2 e1 e2
  al := fun a ha => by
    rcases List.mem_append.mp ha with z | z
    · rcases List.mem_cons.mp z with z | z
      · subst z; exact ⟨ys, h⟩
      · exact (R.al.same s) a (List.mem_append_left _ z)
    · exact (R.al.same s) a (List.mem_append_right _ z)
/-- one's own list is changed -/
theorem Rel.put (R : Rel K O U A0 σ δ H) {i : Nat} {l : Addr} {ys : List V} {ds : List D} (hi : i ∈ O) (hl : σ[i]? = some (some (.ref l))) (hU : l ∈ U) (q : HDs K (wo H (U ++ A0)) ys ds) (hd : ∃ d, δ[i]? = some (some d)) :
    Rel K O U A0 σ (δ.set i (some (.list ds))) (upd H l (.lst ys)) := by
  have hw : wo (upd H l (.lst ys)) (U ++ A0) = wo H (U ++ A0) := wo_own (List.mem_append_left _ hU)
  obtain ⟨d0, hd⟩ := hd
  have hlen : i < δ.length := (List.getElem?_eq_some_iff.mp hd).1
  exact {
    len := by rw [List.length_set]; exact R.len
    fz := fun j e hj w => by
      have hij : i ≠ j := fun z => hj (z ▸ hi)
      rw [List.getElem?_set_ne hij] at w
      rw [hw]
      exact R.fz j e hj w
    ow := fun j e hj w => by
      rw [hw]
      by_cases hij : i = j
      · subst hij
        rw [List.getElem?_set_self hlen] at w
        cases w
        exact ⟨l, ys, ds, hl, rfl, hU, upd_same, q⟩
      · rw [List.getElem?_set_ne hij] at w
        obtain ⟨l', ys', ds', a, b, c, f, g⟩ := R.ow j e hj w
        have hne : l' ≠ l := by
          intro z; subst z
          exact R.inj i j d0 e _ hi hj hij hd w hl a
        exact ⟨l', ys', ds', a, b, c, by rw [upd_ne hne]; exact f, g⟩
    inj := fun j k d e l hj hk hjk q1 q2 e1 e2 => by
      have f : ∀ {m : Nat} {x : D}, (δ.set i (some (.list ds)))[m]? = some (some x) → ∃ y, δ[m]? = some (some y) := by
        intro m x w
        by_cases him : i = m
        · subst him; exact ⟨d0, hd⟩
        · rw [List.getElem?_set_ne him] at w; exact ⟨x, w⟩
      obtain ⟨y1, w1⟩ := f q1
      obtain ⟨y2, w2⟩ := f q2
      exact R.inj j k y1 y2 l hj hk hjk w1 w2 e1 e2
    al := fun a ha => by
      by_cases e : a = l
      · subst e; exact ⟨ys, upd_same⟩
      · rw [upd_ne e]; exact R.al a ha }
end
/-- what stood at the entry stands; one's own lists are new -/
structure Fx (H0 : Hp) (A0 U : List Addr) (H : Hp) : Prop where
  same : Same H0 H
  new : ∀ a ∈ U, H0 a = none
  old : Ls A0 H0
section
variable {K : PySem.W.Frag} {O : List Nat} {U U' A0 : List Addr} {σ : St} {δ : DS} {H0 H H' : Hp}
theorem Fx.grow (F : Fx H0 A0 U H) (s : Same H H') : Fx H0 A0 U H' := ⟨F.same.trans s, F.new, F.old⟩
theorem Fx.more (F : Fx H0 A0 U H) (s : Same H H') {r : Addr} (hr : H r = none) : Fx H0 A0 (r :: U) H' := ⟨F.same.trans s, fun a ha => by
  rcases List.mem_cons.mp ha with z | z
  · subst z; exact F.same.free hr
  · exact F.new a z, F.old⟩
theorem Fx.put (F : Fx H0 A0 U H) {l : Addr} (hl : l ∈ U) (o : HO) : Fx H0 A0 U (upd H l o) := ⟨F.same.upd (F.new l hl) o, F.new, F.old⟩
theorem Fx.out (F : Fx H0 A0 U H) {l : Addr} (hl : l ∈ U) : l ∉ A0 := fun z => by
  obtain ⟨ys, e⟩ := F.old l z
  rw [F.new l hl] at e; cases e
/-- from a place on: what is one's own may change, all else stays -/
theorem Fx.here (F : Fx H0 A0 U H) : Fx (wo H U) A0 U H := ⟨wo_same, fun _ h => wo_in h, fun a ha => by
  obtain ⟨ys, e⟩ := F.old a ha
  refine ⟨ys, ?_⟩
  rw [wo_out fun z => ?_]
  · exact F.same _ _ e
  · exact F.out z ha⟩
theorem Fx.trans (F : Fx H0 A0 U H) (G : Fx (wo H U) A0 U' H') : Fx H0 A0 U' H' := by
  have k : ∀ a o, H0 a = some o → wo H U a = some o := fun a o e => by
    rw [wo_out fun z => ?_]
    · exact F.same _ _ e
    · rw [F.new a z] at e; cases e
  refine ⟨fun a o e => G.same _ _ (k a o e), fun a ha => ?_, F.old⟩
  cases e : H0 a with
  | none => rfl
  | some o =>
    have := G.new a ha
    rw [k a o e] at this; cases this
/-- what was known from a place on is known later -/
theorem Fx.keeps (G : Fx (wo H U) A0 U' H') : Same (wo H (U ++ A0)) (wo H' (U' ++ A0)) := fun b o e => by
  obtain ⟨h1, h2⟩ := wo_some e
  simp only [List.mem_append, not_or] at h1
  have h3 : wo H U b = some o := by rw [wo_out h1.1]; exact h2
  rw [wo_out]
  · exact G.same _ _ h3
  · simp only [List.mem_append, not_or]
    refine ⟨fun z => ?_, h1.2⟩
    rw [G.new b z] at h3; cases h3
end
/-! ### readings by pure functions -/
/-- a value that stands by itself -/
def tE (K : PySem.W.Frag) (O : List Nat) (g : DS → Option D) : TE := fun σ H Q => ∃ U A0 δ d, Rel K O U A0 σ δ H ∧ g δ = some d ∧ ∀ v H', Same H H' → HD K (wo H' (U ++ A0)) v d → Q v H'
/-- a value whose own list may be hidden -/
def tSh (K : PySem.W.Frag) (O : List Nat) (g : DS → Option D) : TE := fun σ H Q => ∃ U A0 δ d, Rel K O U A0 σ δ H ∧ g δ = some d ∧ ∀ v H', Same H H' → ShD K (U ++ A0) H' v d → Q v H'
/-- a new list -/
def tN (K : PySem.W.Frag) (O : List Nat) (g : DS → Option (List D)) : TE := fun σ H Q => ∃ U A0 δ ds, Rel K O U A0 σ δ H ∧ g δ = some ds ∧
  ∀ r ys H', Same H H' → H r = none → H' r = some (.lst ys) → HDs K (wo H' (r :: (U ++ A0))) ys ds → Q (.ref r) H'
def tT (K : PySem.W.Frag) (O : List Nat) (g : DS → Option Bool) : TT := fun σ H Q => ∃ U A0 δ b, Rel K O U A0 σ δ H ∧ g δ = some b ∧ ∀ H', Same H H' → Q b H'
/-- arguments: those that stand by themselves, those that may be hidden -/
def tAs (K : PySem.W.Frag) (O : List Nat) (g : DS → Option (List D)) : TA := fun σ H Q => ∃ U A0 δ ds, Rel K O U A0 σ δ H ∧ g δ = some ds ∧ ∀ vs H', Same H H' → HDs K (wo H' (U ++ A0)) vs ds → Q vs H'
def ShDs (K : PySem.W.Frag) (A : List Addr) (H : Hp) : List V → List D → Prop := Paired (ShD K A H)
def tAsh (K : PySem.W.Frag) (O : List Nat) (g : DS → Option (List D)) : TA := fun σ H Q => ∃ U A0 δ ds, Rel K O U A0 σ δ H ∧ g δ = some ds ∧ ∀ vs H', Same H H' → ShDs K (U ++ A0) H' vs ds → Q vs H'
theorem ShDs.same {K : PySem.W.Frag} {A : List Addr} {H H' : Hp} (s : Same H H') {vs : List V} {ds : List D} (h : ShDs K A H vs ds) : ShDs K A H' vs ds := Paired.mapP h fun _ _ => ShD.same s
inductive Res where
  | nx (δ : DS) | rt (d : D) | bk (δ : DS) | ct (δ : DS)
def RetR (K : PySem.W.Frag) (fr : Bool) (H0 : Hp) (A0 : List Addr) (v : V) (d : D) (H' : Hp) : Prop :=
  if fr = true then ∃ r ys ds, v = .ref r ∧ d = .list ds ∧ Same H0 H' ∧ H0 r = none ∧ H' r = some (.lst ys) ∧ HDs K (wo H' (r :: A0)) ys ds else Same H0 H' ∧ HD K (wo H' A0) v d
def Post (K : PySem.W.Frag) (O : List Nat) (fr : Bool) (H0 : Hp) (A0 : List Addr) (E : Ends) : Res → Prop
  | .nx δ => ∀ U σ H, Rel K O U A0 σ δ H → Fx H0 A0 U H → E.nx σ H
  | .bk δ => ∀ U σ H, Rel K O U A0 σ δ H → Fx H0 A0 U H → E.bk σ H
  | .ct δ => ∀ U σ H, Rel K O U A0 σ δ H → Fx H0 A0 U H → E.ct σ H
  | .rt d => ∀ v H, RetR K fr H0 A0 v d H → E.rt v H
def tS (K : PySem.W.Frag) (O : List Nat) (fr : Bool) (g : DS → Option Res) : TS := fun E σ H => ∃ H0 U A0 δ r, Rel K O U A0 σ δ H ∧ Fx H0 A0 U H ∧ g δ = some r ∧ Post K O fr H0 A0 E r
/-- the walk of an iterator: it yields these, whatever comes -/
def Walks (K : PySem.W.Frag) (A : List Addr) (H1 : Hp) (J : It) (ds : List D) : Prop := ∀ (A' : List Addr) (i : Nat) (H : Hp), Same (wo H1 A) (wo H A') → Ls A' H →
  (∀ d, ds[i]? = some d → J.go i H ∧ ∀ x H2, J.yld i H x H2 → Same H H2 ∧ HD K (wo H2 A') x d) ∧ (i = ds.length → J.stop i H)
def tI (K : PySem.W.Frag) (O : List Nat) (g : DS → Option (List D)) : TI := fun σ H R => ∃ U A0 δ ds, Rel K O U A0 σ δ H ∧ g δ = some ds ∧ ∀ J H1, Same H H1 → Walks K (U ++ A0) H1 J ds → R J H1
/-- a target -/
def tG (K : PySem.W.Frag) (O : List Nat) (g : D → DS → Option DS) : TG := fun v σ H Q => ∃ U A0 δ d δ', Rel K O U A0 σ δ H ∧ HD K (wo H (U ++ A0)) v d ∧ g d δ = some δ' ∧ ∀ σ', Rel K O U A0 σ' δ' H → Q σ' H
end L2

/-! MY OWN: the rules of the pure reading -/
namespace L2
open PySem PySem.Spec PyProof.Rows
section
variable {X : Cx}
theorem PE.mono {e : Expr} {t t' : TE} (h : PE X e t) (m : ∀ σ H Q, t' σ H Q → t σ H Q) : PE X e t' := fun pins s σ H Q I q => h pins s σ H Q I (m σ H Q q)
theorem PT.mono {e : Expr} {t t' : TT} (h : PT X e t) (m : ∀ σ H Q, t' σ H Q → t σ H Q) : PT X e t' := fun pins s σ H Q I q => h pins s σ H Q I (m σ H Q q)
theorem PW.mono {e : Expr} {t t' : TT} (h : PW X e t) (m : ∀ σ H Q, t' σ H Q → t σ H Q) : PW X e t' := fun w pins s σ H Q I q => h w pins s σ H Q I (m σ H Q q)
theorem PA.mono {e : List Expr} {t t' : TA} (h : PA X e t) (m : ∀ σ H Q, t' σ H Q → t σ H Q) : PA X e t' := fun pos pins s σ H Q I q => h pos pins s σ H Q I (m σ H Q q)
theorem PS.mono {e : Stmt} {t t' : TS} (h : PS X e t) (m : ∀ E σ H, t' E σ H → t E σ H) : PS X e t' := fun pins s σ H E I q => h pins s σ H E I (m E σ H q)
theorem PSs.mono {e : List Stmt} {t t' : TS} (h : PSs X e t) (m : ∀ E σ H, t' E σ H → t E σ H) : PSs X e t' := fun pins s σ H E I q => h pins s σ H E I (m E σ H q)
theorem PI.mono {tg e : Expr} {t t' : TI} (h : PI X tg e t) (m : ∀ σ H R, t' σ H R → t σ H R) : PI X tg e t' := fun pins s σ H R I q => h pins s σ H R I (m σ H R q)
theorem PG.mono {e : Expr} {t t' : TG} (h : PG X e t) (m : ∀ v σ H Q, t' v σ H Q → t v σ H Q) : PG X e t' := fun pins s σ H v u Q I r q => h pins s σ H v u Q I r (m v σ H Q q)
theorem PO.mono {e : Option Expr} {t t' : TO} (h : PO X e t) (m : ∀ σ H Q, t' σ H Q → t σ H Q) : PO X e t' := fun pins s σ H Q I q => h pins s σ H Q I (m σ H Q q)
end
/-! ### names, constants -/
def gVar (i : Nat) : DS → Option D := fun δ => (δ[i]?).join
def gC (d : D) : DS → Option D := fun _ => some d
def gLst (g : DS → Option (List D)) : DS → Option D := fun δ => (g δ).map .list
theorem join_some {α : Type} {o : Option (Option α)} {d : α} (h : o.join = some d) : o = some (some d) := by
  cases o with
  | none => cases h
  | some p => cases p with
    | none => cases h
    | some q => cases h; rfl
section
variable {X : Cx} {O : List Nat} {e : Expr} {g : DS → Option D}
theorem pd_var {i : Nat} (h : PE X e (tVar i)) (hi : i ∉ O := by decide) : PE X e (tE X.K O (gVar i)) := h.mono fun σ H Q ⟨U, A0, δ, d, R, ed, q⟩ => by
  obtain ⟨v, hv, hd⟩ := R.fz i d hi (join_some ed)
  exact ⟨v, hv, q v H (Same.refl H) hd⟩
theorem pd_own {i : Nat} (h : PE X e (tVar i)) : PE X e (tSh X.K O (gVar i)) := h.mono fun σ H Q ⟨U, A0, δ, d, R, ed, q⟩ => by
  obtain ⟨v, hv, hd⟩ := R.at (join_some ed)
  exact ⟨v, hv, q v H (Same.refl H) hd⟩
theorem pd_c {v : V} {d : D} (h : PE X e (tC v)) (hd : ∀ H, HD X.K H v d) : PE X e (tE X.K O (gC d)) := h.mono fun σ H Q ⟨U, A0, δ, d', R, ed, q⟩ => by
  cases ed
  exact q v H (Same.refl H) (hd _)
theorem pd_int {i : Int} (h : PE X e (tC (.int i))) : PE X e (tE X.K O (gC (.int i))) := pd_c h fun _ => .int i
theorem pd_bl {i : Bool} (h : PE X e (tC (.bl i))) : PE X e (tE X.K O (gC (.bool i))) := pd_c h fun _ => .bl i
theorem pd_str {i : Str} (h : PE X e (tC (.str i))) : PE X e (tE X.K O (gC (.str i))) := pd_c h fun _ => .str i
theorem pd_non (h : PE X e (tC .non)) : PE X e (tE X.K O (gC .none)) := pd_c h fun _ => .non
theorem PE.sh (h : PE X e (tE X.K O g)) : PE X e (tSh X.K O g) := h.mono fun σ H Q ⟨U, A0, δ, d, R, ed, q⟩ => ⟨U, A0, δ, d, R, ed, fun v H' s z => q v H' s (.inl z)⟩
theorem tN_tE {K : PySem.W.Frag} {g : DS → Option (List D)} {σ : St} {H : Hp} {Q : VK} : tE K O (gLst g) σ H Q → tN K O g σ H Q := fun ⟨U, A0, δ, d, R, ed, q⟩ => by
  unfold gLst at ed
  cases eg : g δ with
  | none => rw [eg] at ed; cases ed
  | some ds =>
    rw [eg] at ed; cases ed
    refine ⟨U, A0, δ, ds, R, eg, fun r ys H' s hr h1 h2 => q _ H' s ?_⟩
    have hn := R.al.free hr
    exact .lst (.of (by rw [wo_out hn]; exact h1)) (h2.same (wo_sub fun a ha => List.mem_cons_of_mem _ ha))
theorem PE.nE {g : DS → Option (List D)} (h : PE X e (tN X.K O g)) : PE X e (tE X.K O (gLst g)) := h.mono fun _ _ _ => tN_tE
end
/-! ### two-place operations -/
def g2 (f : D → D → Option D) (a b : DS → Option D) : DS → Option D := fun δ => (a δ).bind fun x => (b δ).bind fun y => f x y
def g2N (f : D → D → Option (List D)) (a b : DS → Option D) : DS → Option (List D) := fun δ => (a δ).bind fun x => (b δ).bind fun y => f x y
def Imp2 (K : PySem.W.Frag) (r : R2) (f : D → D → Option D) : Prop := ∀ (A : List Addr) (H : Hp) (x y : V) (dx dy d : D) (Q : VK), Ls A H → ShD K A H x dx → ShD K A H y dy → f dx dy = some d → (∀ v H', Same H H' → HD K (wo H' A) v d → Q v H') → r x y H Q
def Imp2N (K : PySem.W.Frag) (r : R2) (f : D → D → Option (List D)) : Prop := ∀ (A : List Addr) (H : Hp) (x y : V) (dx dy : D) (ds : List D) (Q : VK), Ls A H → ShD K A H x dx → ShD K A H y dy → f dx dy = some ds →
  (∀ p ys, H p = none → HDs K (wo H A) ys ds → Q (.ref p) (upd H p (.lst ys))) → r x y H Q
theorem bind2 {α β γ : Type} {a : Option α} {b : Option β} {f : α → β → Option γ} {d : γ} (h : (a.bind fun x => b.bind fun y => f x y) = some d) : ∃ x y, a = some x ∧ b = some y ∧ f x y = some d := by
  cases a with
  | none => cases h
  | some x => cases b with
    | none => cases h
    | some y => exact ⟨x, y, rfl, rfl, h⟩
theorem bind1 {α β : Type} {a : Option α} {f : α → Option β} {d : β} (h : a.bind f = some d) : ∃ x, a = some x ∧ f x = some d := by
  cases a with
  | none => cases h
  | some x => exact ⟨x, rfl, h⟩
section
variable {X : Cx} {O : List Nat} {a b : Expr} {ga gb : DS → Option D} {pos : Pos} {r : R2}
theorem tOp_E {K : PySem.W.Frag} {f : D → D → Option D} (imp : Imp2 K r f) {σ : St} {H : Hp} {Q : VK} : tE K O (g2 f ga gb) σ H Q → tOp r (tSh K O ga) (tSh K O gb) σ H Q := fun ⟨U, A0, δ, d, R, ed, q⟩ => by
  obtain ⟨x, y, ex, ey, ef⟩ := bind2 ed
  exact ⟨U, A0, δ, x, R, ex, fun v1 H1 s1 h1 => ⟨U, A0, δ, y, R.same s1, ey, fun v2 H2 s2 h2 => imp _ H2 v1 v2 x y d Q (R.same (s1.trans s2)).al (h1.same s2) h2 ef fun v H' s h => q v H' ((s1.trans s2).trans s) h⟩⟩
theorem new_q {K : PySem.W.Frag} {A : List Addr} {H H2 : Hp} {ds : List D} {Q : VK} (s : Same H H2) (q : ∀ r ys H', Same H H' → H r = none → H' r = some (.lst ys) → HDs K (wo H' (r :: A)) ys ds → Q (.ref r) H') : ∀ p ys, H2 p = none → HDs K (wo H2 A) ys ds → Q (.ref p) (upd H2 p (.lst ys)) :=
  fun p ys hp h => q p ys _ (s.trans (same_new hp _)) (s.free hp) upd_same (by rw [wo_cons_new hp]; exact h)
theorem tOp_N {K : PySem.W.Frag} {f : D → D → Option (List D)} (imp : Imp2N K r f) {σ : St} {H : Hp} {Q : VK} : tN K O (g2N f ga gb) σ H Q → tOp r (tSh K O ga) (tSh K O gb) σ H Q := fun ⟨U, A0, δ, d, R, ed, q⟩ => by
  obtain ⟨x, y, ex, ey, ef⟩ := bind2 ed
  exact ⟨U, A0, δ, x, R, ex, fun v1 H1 s1 h1 => ⟨U, A0, δ, y, R.same s1, ey, fun v2 H2 s2 h2 => imp _ H2 v1 v2 x y d Q (R.same (s1.trans s2)).al (h1.same s2) h2 ef (new_q (s1.trans s2) q)⟩⟩
theorem pd_op {op : Operator} {f : D → D → Option D} (ho : OpR X (binaryOp op) r) (imp : Imp2 X.K r f) (ha : PE X a (tSh X.K O ga)) (hb : PE X b (tSh X.K O gb)) : PE X (.BinOp a op b pos) (tE X.K O (g2 f ga gb)) := (pe_op ho ha hb).mono fun _ _ _ => tOp_E imp
theorem pd_opN {op : Operator} {f : D → D → Option (List D)} (ho : OpR X (binaryOp op) r) (imp : Imp2N X.K r f) (ha : PE X a (tSh X.K O ga)) (hb : PE X b (tSh X.K O gb)) : PE X (.BinOp a op b pos) (tN X.K O (g2N f ga gb)) := (pe_op ho ha hb).mono fun _ _ _ => tOp_N imp
theorem pd_cmp {op : CmpOp} {f : D → D → Option D} (ho : OpR X (compareOp op) r) (imp : Imp2 X.K r f) (ha : PE X a (tSh X.K O ga)) (hb : PE X b (tSh X.K O gb)) (hm : behindInMarks op b = false) : PE X (.Compare a [op] [b] pos) (tE X.K O (g2 f ga gb)) := (pe_cmpR ho ha hb hm).mono fun _ _ _ => tOp_E imp
/-- a test from a value -/
def gB (g : DS → Option D) : DS → Option Bool := fun δ => (g δ).bind fun | .bool b => some b | _ => none
theorem tT_of {K : PySem.W.Frag} {g : DS → Option D} {te : TE} (m : ∀ σ H Q, tE K O g σ H Q → te σ H Q) {σ : St} {H : Hp} {Q : Bool → Hp → Prop} : tT K O (gB g) σ H Q → te σ H fun x H' => ∃ k, x = .bl k ∧ Q k H' := fun ⟨U, A0, δ, b, R, ed, q⟩ => by
  obtain ⟨d, e1, e2⟩ := bind1 ed
  cases d with
  | bool c =>
    cases e2
    exact m σ H _ ⟨U, A0, δ, _, R, e1, fun v H' s h => by cases h; exact ⟨_, rfl, q H' s⟩⟩
  | _ => cases e2
theorem pd_tcmp {op : CmpOp} {f : D → D → Option D} (ho : OpR X (compareOp op) r) (imp : Imp2 X.K r f) (ha : PE X a (tSh X.K O ga)) (hb : PE X b (tSh X.K O gb)) (hm : behindInMarks op b = false) : PT X (.Compare a [op] [b] pos) (tT X.K O (gB (g2 f ga gb))) := (pt_cmpR ho ha hb hm).mono fun _ _ _ => tT_of fun _ _ _ => tOp_E imp
end
/-! ### ints -/
def dI (g : Int → Int → D) : D → D → Option D
  | .int a, .int b => some (g a b)
  | _, _ => none
open Classical in
noncomputable def dIc (C : Int → Int → Prop) (g : Int → Int → D) : D → D → Option D
  | .int a, .int b => if C a b then some (g a b) else none
  | _, _ => none
open Classical in
theorem dIc_ok {C : Int → Int → Prop} {g : Int → Int → D} {a b : Int} (h : C a b) : dIc C g (.int a) (.int b) = some (g a b) := by
  show (if C a b then some (g a b) else none) = _
  rw [if_pos h]
theorem dI_ok {g : Int → Int → D} {a b : Int} : dI g (.int a) (.int b) = some (g a b) := rfl
theorem imp_I {K : PySem.W.Frag} {g : Int → Int → Int} : Imp2 K (rI0 fun i j => .int (g i j)) (dI fun i j => .int (g i j)) := by
  intro A H x y dx dy d Q al hx hy e q
  unfold dI at e
  split at e
  · cases e
    exact ⟨_, _, hx.int, hy.int, q _ H (Same.refl H) (.int _)⟩
  · cases e
theorem imp_Ib {K : PySem.W.Frag} {g : Int → Int → Bool} : Imp2 K (rI0 fun i j => .bl (g i j)) (dI fun i j => .bool (g i j)) := by
  intro A H x y dx dy d Q al hx hy e q
  unfold dI at e
  split at e
  · cases e
    exact ⟨_, _, hx.int, hy.int, q _ H (Same.refl H) (.bl _)⟩
  · cases e
theorem imp_Ic {K : PySem.W.Frag} {C : Int → Int → Prop} {g : Int → Int → Int} : Imp2 K (rI C fun i j => .int (g i j)) (dIc C fun i j => .int (g i j)) := by
  intro A H x y dx dy d Q al hx hy e q
  unfold dIc at e
  split at e
  · split at e
    · rename_i c
      cases e
      exact ⟨_, _, hx.int, hy.int, c, q _ H (Same.refl H) (.int _)⟩
    · cases e
  · cases e
abbrev dSub : D → D → Option D := dI fun i j => .int (i - j)
noncomputable abbrev dMulI : D → D → Option D := dIc IntMulOk fun i j => .int (i * j)
noncomputable abbrev dDiv : D → D → Option D := dIc CDivS fun i j => .int (i.fdiv j)
noncomputable abbrev dMod : D → D → Option D := dIc (fun _ j => j ≠ 0) fun i j => .int (i.fmod j)
noncomputable abbrev dPow : D → D → Option D := dIc CPow fun i j => .int (i ^ j.toNat)
abbrev dLt : D → D → Option D := dI fun i j => .bool (decide (i < j))
abbrev dLe : D → D → Option D := dI fun i j => .bool (decide (i ≤ j))
abbrev dGt : D → D → Option D := dI fun i j => .bool (decide (j < i))
abbrev dGe : D → D → Option D := dI fun i j => .bool (decide (j ≤ i))
/-! ### ==, != of any data -/
def dEq : D → D → Option D
  | .int a, .int b => some (.bool (decide (a = b)))
  | a, b => if (SeqAt.shaped a && SeqAt.shaped b) = true then some (.bool (PyData.eqv a b)) else none
def dNe : D → D → Option D := fun a b => (dEq a b).bind fun | .bool c => some (.bool (!c)) | _ => none
theorem dEq_eqv {a b d : D} (h : dEq a b = some d) : SeqAt.shaped a = true ∧ SeqAt.shaped b = true ∧ d = .bool (PyData.eqv a b) := by
  unfold dEq at h
  split at h
  · cases h
    refine ⟨by simp [SeqAt.shaped, PyData.canLay0, PyData.depth], by simp [SeqAt.shaped, PyData.canLay0, PyData.depth], ?_⟩
    rw [PyData.eqv]; rfl
  · split at h
    · rename_i c
      rw [Bool.and_eq_true] at c
      cases h
      exact ⟨c.1, c.2, rfl⟩
    · cases h
def rEqH (K : PySem.W.Frag) (neg : Bool) : R2 := fun x y H Q => ∃ d e, HD K H x d ∧ HD K H y e ∧ SeqAt.shaped d = true ∧ SeqAt.shaped e = true ∧ Q (.bl (if neg = true then !PyData.eqv d e else PyData.eqv d e)) H
section
variable {X : Cx}
theorem op_eqH {k : Nat} (hr : Room k X.A) : OpR X (compareOp .Eq) (rEqH X.K false) := by
  intro pins s σ H x y v u Q I rx ry h
  obtain ⟨d, e, h1, h2, s1, s2, q⟩ := h
  obtain ⟨as, r1⟩ := h1.reads I rx
  obtain ⟨bs, r2⟩ := h2.reads I ry
  exact eq_dataH r1 r2 s1 s2 hr.units ⟨.bl _, H, I, rfl, q⟩
theorem op_neH {k : Nat} (hr : Room k X.A) : OpR X (compareOp .NotEq) (rEqH X.K true) := by
  intro pins s σ H x y v u Q I rx ry h
  obtain ⟨d, e, h1, h2, s1, s2, q⟩ := h
  obtain ⟨as, r1⟩ := h1.reads I rx
  obtain ⟨bs, r2⟩ := h2.reads I ry
  exact ne_dataH r1 r2 s1 s2 hr.units ⟨.bl _, H, I, rfl, q⟩
end
theorem imp_eq {K : PySem.W.Frag} : Imp2 K (rEqH K false) dEq := by
  intro A H x y dx dy d Q al hx hy e q
  obtain ⟨a, b, rfl⟩ := dEq_eqv e
  exact ⟨dx, dy, hx.isD, hy.isD, a, b, q _ H (Same.refl H) (.bl _)⟩
theorem imp_ne {K : PySem.W.Frag} : Imp2 K (rEqH K true) dNe := by
  intro A H x y dx dy d Q al hx hy e q
  obtain ⟨c, e1, e2⟩ := bind1 e
  obtain ⟨a, b, rfl⟩ := dEq_eqv e1
  cases e2
  exact ⟨dx, dy, hx.isD, hy.isD, a, b, q _ H (Same.refl H) (.bl _)⟩
/-! ### is None -/
def dIsN : D → D → Option D
  | .none, .none => some (.bool true)
  | _, .none => some (.bool false)
  | _, _ => none
def dNotN : D → D → Option D
  | .none, .none => some (.bool false)
  | _, .none => some (.bool true)
  | _, _ => none
theorem non_iff {K : PySem.W.Frag} {A : List Addr} {H : Hp} {x : V} {d : D} (h : ShD K A H x d) (hd : d ≠ .none) : x ≠ .non := by
  rcases h with h | ⟨l, ys, ds', rfl, e, q⟩
  · cases h <;> first | exact absurd rfl hd | (intro z; cases z)
  · intro z; cases z
theorem imp_isN {K : PySem.W.Frag} : Imp2 K (fun x y H Q => y = .non ∧ Q (.bl (decide (x = .non))) H) dIsN := by
  intro A H x y dx dy d Q al hx hy e q
  unfold dIsN at e
  split at e
  · cases e
    refine ⟨hy.non, ?_⟩
    rw [decide_eq_true hx.non]
    exact q _ H (Same.refl H) (.bl _)
  · rename_i hn
    cases e
    refine ⟨hy.non, ?_⟩
    rw [decide_eq_false (non_iff hx fun z => hn z)]
    exact q _ H (Same.refl H) (.bl _)
  · cases e
theorem imp_notN {K : PySem.W.Frag} : Imp2 K (fun x y H Q => y = .non ∧ Q (.bl (!decide (x = .non))) H) dNotN := by
  intro A H x y dx dy d Q al hx hy e q
  unfold dNotN at e
  split at e
  · cases e
    refine ⟨hy.non, ?_⟩
    rw [decide_eq_true hx.non]
    exact q _ H (Same.refl H) (.bl _)
  · rename_i hn
    cases e
    refine ⟨hy.non, ?_⟩
    rw [decide_eq_false (non_iff hx fun z => hn z)]
    exact q _ H (Same.refl H) (.bl _)
  · cases e
/-! ### + of lists, tuples, texts, ints; list * int -/
def rCatR (K : PySem.W.Frag) : R2 := fun x y H Q => ∃ l b xs zs, x = .ref l ∧ y = .ref b ∧ LsD K H l xs ∧ LsD K H b zs ∧ xs.length + zs.length ≤ sizeLine ∧ ∀ p, H p = none → Q (.ref p) (upd H p (.lst (xs ++ zs)))
theorem op_catR {X : Cx} : OpR X (binaryOp .Add) (rCatR X.K) := by
  intro pins s σ H x y v u Q I rx ry h
  obtain ⟨l, b, xs, zs, rfl, rfl, hH, hB, hz, q⟩ := h
  cases rx
  cases ry
  obtain ⟨z, its, n, r, e⟩ := I.lsd hH
  obtain ⟨z2, its2, n2, r2, e2⟩ := I.lsd hB
  have hl := r.length
  have hl2 := r2.length
  refine PySem.P.add_list e e2 ?_ (by rw [List.size_toArray, List.size_toArray]; omega)
  have ea : its.toArray ++ its2.toArray = (its ++ its2).toArray := by simp
  rw [ea]
  exact ⟨.ref _, _, I.lnew (t' := s.toks) (r.append r2) (by rw [List.length_append]; omega), rfl, q _ I.fresh⟩
def dCat : D → D → Option (List D)
  | .list a, .list b => if a.length + b.length ≤ 100000 then some (a ++ b) else none
  | _, _ => none
theorem imp_cat {K : PySem.W.Frag} : Imp2N K (rCatR K) dCat := by
  intro A H x y dx dy ds Q al hx hy e q
  unfold dCat at e
  split at e
  · split at e
    · rename_i hz
      cases e
      obtain ⟨l, xs, rfl, h1, h2⟩ := hx.list
      obtain ⟨b, zs, rfl, h3, h4⟩ := hy.list
      have := h2.len
      have := h4.len
      exact ⟨l, b, xs, zs, rfl, rfl, h1, h3, small (by omega), fun p hp => q p _ hp (h2.app h4)⟩
    · cases e
  · cases e
def dAdd : D → D → Option D
  | .int a, .int b => some (.int (a + b))
  | .str a, .str b => if a.length + b.length ≤ 100000 then some (.str (a ++ b)) else none
  | .list a, .list b => if a.length + b.length ≤ 100000 then some (.list (a ++ b)) else none
  | .tuple a, .tuple b => if a.length + b.length ≤ 100000 ∧ a ≠ [] then some (.tuple (a ++ b)) else none
  | _, _ => none
def rAddU (K : PySem.W.Frag) : R2 := fun x y H Q => rI0 (fun i j => .int (i + j)) x y H Q ∨ (∃ i j, x = .str i ∧ y = .str j ∧ i.length + j.length ≤ sizeLine ∧ Q (.str (i ++ j)) H) ∨ rCatR K x y H Q ∨ rCatT K x y H Q
theorem op_addU {X : Cx} : OpR X (binaryOp .Add) (rAddU X.K) := op_add.or (op_add_str.or (op_catR.or op_catT))
theorem HD.newL {K : PySem.W.Frag} {A : List Addr} {H : Hp} {p : Addr} {ys : List V} {ds : List D} (al : Ls A H) (hp : H p = none) (h : HDs K (wo H A) ys ds) : HD K (wo (upd H p (.lst ys)) A) (.ref p) (.list ds) := by
  rw [wo_new (al.free hp)]
  have hn : wo H A p = none := by
    by_cases z : p ∈ A
    · exact wo_in z
    · rw [wo_out z]; exact hp
  exact .lst (.of upd_same) (h.same (same_new hn _))
theorem HD.newT {K : PySem.W.Frag} {A : List Addr} {H : Hp} {p : Addr} {ys : List V} {ds : List D} (al : Ls A H) (hp : H p = none) (h : HDs K (wo H A) ys ds) : HD K (wo (upd H p (.tup ys)) A) (.ref p) (.tuple ds) := by
  rw [wo_new (al.free hp)]
  have hn : wo H A p = none := by
    by_cases z : p ∈ A
    · exact wo_in z
    · rw [wo_out z]; exact hp
  exact .tup (SqT.of upd_same) (h.same (same_new hn _))
theorem imp_add {K : PySem.W.Frag} : Imp2 K (rAddU K) dAdd := by
  intro A H x y dx dy d Q al hx hy e q
  unfold dAdd at e
  split at e
  · cases e
    exact .inl ⟨_, _, hx.int, hy.int, q _ H (Same.refl H) (.int _)⟩
  · split at e
    · cases e
      exact .inr (.inl ⟨_, _, hx.str, hy.str, small (by assumption), q _ H (Same.refl H) (.str _)⟩)
    · cases e
  · split at e
    · rename_i hz
      cases e
      refine .inr (.inr (.inl (imp_cat (K := K) A H x y _ _ _ Q al hx hy (show (if _ then some _ else none) = some _ from if_pos hz) fun p ys hp h => ?_)))
      exact q _ _ (same_new hp _) (HD.newL al hp h)
    · cases e
  · split at e
    · rename_i hz
      cases e
      have hx' := hx.fz
      obtain ⟨a, xs, rfl, h1, h2⟩ := hx.tuple
      obtain ⟨b, zs, rfl, h3, h4⟩ := hy.tuple
      have l2 := h2.len
      have l4 := h4.len
      refine .inr (.inr (.inr ⟨a, b, xs, zs, rfl, rfl, h1, h3, ?_, small (by omega), fun z => ?_, fun z p hp => ?_⟩))
      · intro z; subst z; cases h2; exact hz.2 rfl
      · subst z; cases h4
        rw [List.append_nil] at q
        exact q _ H (Same.refl H) hx'
      · exact q _ _ (same_new hp _) (HD.newT al hp (h2.app h4))
    · cases e
  · cases e
/-- a new list times a number -/
def gRepN (a : DS → Option (List D)) (b : DS → Option D) : DS → Option (List D) := fun δ => (a δ).bind fun ds => (b δ).bind fun y => match y with
  | .int k => if k < 2 ^ 62 ∧ -(2 ^ 62) < k ∧ ds.length * k.toNat ≤ 100000 then some (List.replicate k.toNat ds).flatten else none
  | _ => none
theorem pd_repN {X : Cx} {O : List Nat} {a b : Expr} {pos : Pos} {ga : DS → Option (List D)} {gb : DS → Option D} (ha : PE X a (tN X.K O ga)) (hb : PE X b (tSh X.K O gb)) : PE X (.BinOp a .Mult b pos) (tN X.K O (gRepN ga gb)) := (pe_op op_rep ha hb).mono fun σ H Q ⟨U, A0, δ, d, R, ed, q⟩ => by
  obtain ⟨x, y, ex, ey, ef⟩ := bind2 ed
  cases y with
  | int k =>
    simp only at ef
    split at ef
    · rename_i hz
      cases ef
      refine ⟨U, A0, δ, x, R, ex, fun r ys H1 s1 hr h1 h2 => ⟨U, A0, δ, _, R.same s1, ey, fun v2 H2 s2 h3 => ?_⟩⟩
      have hl := h2.len
      refine ⟨r, k, ys, rfl, h3.int, s2 _ _ h1, by omega, by omega, small (by rw [hl]; exact hz.2.2), fun p hp => new_q (s1.trans s2) q p _ hp ?_⟩
      exact HDs.rep (h2.same ((wo_sub fun a ha => List.mem_cons_of_mem _ ha).trans (wo_mono s2))) _
    · cases ef
  | _ => cases ef
/-! ### items -/
def dIx : D → D → Option D
  | .list ds, .int i => atI ds i
  | .tuple ds, .int i => atI ds i
  | .str z, .int i => if z.length ≤ 100000 then (atI z.cps.toList i).map fun c => .str ⟨#[c]⟩ else none
  | _, _ => none
theorem HDs.atI {K : PySem.W.Frag} {H : Hp} {xs : List V} {ds : List D} {i : Int} {d : D} (h : HDs K H xs ds) (e : atI ds i = some d) : ∃ v, L2.atI xs i = some v ∧ HD K H v d := by
  unfold L2.atI at e ⊢
  obtain ⟨j, e1, e2⟩ := bind1 e
  rw [h.len, e1]
  obtain ⟨x, hx, q⟩ := h.get e2
  exact ⟨x, hx, q⟩
theorem imp_ix {K : PySem.W.Frag} : Imp2 K (rIx K) dIx := by
  intro A H x y dx dy d Q al hx hy e q
  unfold dIx at e
  split at e
  · obtain ⟨l, xs, rfl, h1, h2⟩ := hx.list
    obtain ⟨v, e1, e2⟩ := h2.atI e
    exact .inl ⟨l, xs, _, v, rfl, hy.int, h1.sq, e1, q _ H (Same.refl H) e2⟩
  · obtain ⟨l, xs, rfl, h1, h2⟩ := hx.tuple
    obtain ⟨v, e1, e2⟩ := h2.atI e
    exact .inr (.inl ⟨l, xs, _, v, rfl, hy.int, h1, e1, q _ H (Same.refl H) e2⟩)
  · split at e
    · rename_i z i hz
      cases ec : L2.atI z.cps.toList i with
      | none => rw [ec] at e; cases e
      | some c =>
        rw [ec] at e; cases e
        exact .inr (.inr ⟨z, i, c, hx.str, hy.int, small hz, ec, q _ H (Same.refl H) (.str _)⟩)
    · cases e
  · cases e
section
variable {X : Cx} {O : List Nat} {a b : Expr} {ga gb : DS → Option D} {pos : Pos}
theorem pd_ix (ha : PE X a (tSh X.K O ga)) (hb : PE X b (tSh X.K O gb)) (hs : PlainIx b := by exact fun _ _ => rfl) : PE X (.Subscript a b pos) (tE X.K O (g2 dIx ga gb)) := (pe_ix ix_seq ha hb hs).mono fun _ _ _ => tOp_E imp_ix
end
/-! ### one-place operations -/
def g1 (f : D → Option D) (a : DS → Option D) : DS → Option D := fun δ => (a δ).bind f
def dNeg : D → Option D
  | .int a => some (.int (-a))
  | _ => none
def dNot : D → Option D
  | .bool a => some (.bool (!a))
  | _ => none
section
variable {X : Cx} {O : List Nat} {a b c : Expr} {ga gb : DS → Option D} {pos : Pos}
theorem pd_neg (ha : PE X a (tSh X.K O ga)) : PE X (.UnaryOp .USub a pos) (tE X.K O (g1 dNeg ga)) := (pe_un un_neg ha).mono fun σ H Q ⟨U, A0, δ, d, R, ed, q⟩ => by
  obtain ⟨x, e1, e2⟩ := bind1 ed
  cases x with
  | int i => cases e2; exact ⟨U, A0, δ, _, R, e1, fun v H' s h => ⟨i, h.int, q _ H' s (.int _)⟩⟩
  | _ => cases e2
theorem pd_not (ha : PE X a (tSh X.K O ga)) : PE X (.UnaryOp .Not a pos) (tE X.K O (g1 dNot ga)) := (pe_not ha).mono fun σ H Q ⟨U, A0, δ, d, R, ed, q⟩ => by
  obtain ⟨x, e1, e2⟩ := bind1 ed
  cases x with
  | bool i => cases e2; exact ⟨U, A0, δ, _, R, e1, fun v H' s h => ⟨i, h.bool, q _ H' s (.bl _)⟩⟩
  | _ => cases e2
/-- and, or of bools -/
def gAndV (a b : DS → Option D) : DS → Option D := fun δ => (gB a δ).bind fun x => if x = true then b δ else some (.bool false)
def gOrV (a b : DS → Option D) : DS → Option D := fun δ => (gB a δ).bind fun x => if x = true then some (.bool true) else b δ
theorem gB_some {g : DS → Option D} {δ : DS} {b : Bool} (h : gB g δ = some b) : g δ = some (.bool b) := by
  obtain ⟨d, e1, e2⟩ := bind1 h
  cases d with
  | bool c => cases e2; exact e1
  | _ => cases e2
theorem pd_and {rest : List Expr} (ha : PE X a (tE X.K O ga)) (hb : PE X (.BoolOp .And (b :: rest) pos) (tE X.K O gb)) : PE X (.BoolOp .And (a :: b :: rest) pos) (tE X.K O (gAndV ga gb)) := (pe_and ha hb).mono fun σ H Q ⟨U, A0, δ, d, R, ed, q⟩ => by
  obtain ⟨x, e1, e2⟩ := bind1 ed
  refine ⟨U, A0, δ, _, R, gB_some e1, fun v H' s h => ?_⟩
  cases h
  refine ⟨x, rfl, ?_⟩
  cases x with
  | true => rw [if_pos rfl] at e2 ⊢; exact ⟨U, A0, δ, d, R.same s, e2, fun v H2 s2 h2 => q v H2 (s.trans s2) h2⟩
  | false => rw [if_neg Bool.false_ne_true] at e2 ⊢; cases e2; exact q _ H' s (.bl _)
theorem pd_or {rest : List Expr} (ha : PE X a (tE X.K O ga)) (hb : PE X (.BoolOp .Or (b :: rest) pos) (tE X.K O gb)) : PE X (.BoolOp .Or (a :: b :: rest) pos) (tE X.K O (gOrV ga gb)) := (pe_or ha hb).mono fun σ H Q ⟨U, A0, δ, d, R, ed, q⟩ => by
  obtain ⟨x, e1, e2⟩ := bind1 ed
  refine ⟨U, A0, δ, _, R, gB_some e1, fun v H' s h => ?_⟩
  cases h
  refine ⟨x, rfl, ?_⟩
  cases x with
  | true => rw [if_pos rfl] at e2 ⊢; cases e2; exact q _ H' s (.bl _)
  | false => rw [if_neg Bool.false_ne_true] at e2 ⊢; exact ⟨U, A0, δ, d, R.same s, e2, fun v H2 s2 h2 => q v H2 (s.trans s2) h2⟩
/-! ### tests -/
def gAnd (a b : DS → Option Bool) : DS → Option Bool := fun δ => (a δ).bind fun x => if x = true then b δ else some false
def gOr (a b : DS → Option Bool) : DS → Option Bool := fun δ => (a δ).bind fun x => if x = true then some true else b δ
def gNot (a : DS → Option Bool) : DS → Option Bool := fun δ => (a δ).map fun x => !x
variable {ta tb : DS → Option Bool} {rest : List Expr}
theorem pd_tand (ha : PT X a (tT X.K O ta)) (hb : PW X (.BoolOp .And (b :: rest) pos) (tT X.K O tb)) : PW X (.BoolOp .And (a :: b :: rest) pos) (tT X.K O (gAnd ta tb)) := (pw_and ha hb).mono fun σ H Q ⟨U, A0, δ, d, R, ed, q⟩ => by
  obtain ⟨x, e1, e2⟩ := bind1 ed
  refine ⟨U, A0, δ, _, R, e1, fun H' s => ?_⟩
  cases x with
  | true => rw [if_pos rfl] at e2 ⊢; exact ⟨U, A0, δ, d, R.same s, e2, fun H2 s2 => q H2 (s.trans s2)⟩
  | false => rw [if_neg Bool.false_ne_true] at e2 ⊢; cases e2; exact q H' s
theorem pd_tor (ha : PT X a (tT X.K O ta)) (hb : PW X (.BoolOp .Or (b :: rest) pos) (tT X.K O tb)) : PW X (.BoolOp .Or (a :: b :: rest) pos) (tT X.K O (gOr ta tb)) := (pw_or ha hb).mono fun σ H Q ⟨U, A0, δ, d, R, ed, q⟩ => by
  obtain ⟨x, e1, e2⟩ := bind1 ed
  refine ⟨U, A0, δ, _, R, e1, fun H' s => ?_⟩
  cases x with
  | true => rw [if_pos rfl] at e2 ⊢; cases e2; exact q H' s
  | false => rw [if_neg Bool.false_ne_true] at e2 ⊢; exact ⟨U, A0, δ, d, R.same s, e2, fun H2 s2 => q H2 (s.trans s2)⟩
theorem pd_tnot (ha : PT X a (tT X.K O ta)) : PT X (.UnaryOp .Not a pos) (tT X.K O (gNot ta)) := (pt_not ha).mono fun σ H Q ⟨U, A0, δ, d, R, ed, q⟩ => by
  unfold gNot at ed
  cases e : ta δ with
  | none => rw [e] at ed; cases ed
  | some x => rw [e] at ed; cases ed; exact ⟨U, A0, δ, x, R, e, fun H' s => q H' s⟩
/-- a value's truth -/
def dTru : D → Option Bool
  | .none => some false
  | .bool b => some b
  | .int i => some (i != 0)
  | .str x => if x.length ≤ 100000 then some ((x.length : Int) != 0) else none
  | .list l => some (!l.isEmpty)
  | .tuple l => some (!l.isEmpty)
  | _ => none
def gTru (g : DS → Option D) : DS → Option Bool := fun δ => (g δ).bind dTru
theorem isEmpty_HD {K : PySem.W.Frag} {H : Hp} {xs : List V} {ds : List D} (h : HDs K H xs ds) : xs.isEmpty = ds.isEmpty := by cases h <;> rfl
theorem pd_truth (ha : PE X a (tSh X.K O ga)) (he : ∀ whole, isTrue a X.env whole = (do let v ← whole; standAt a.pos; holding [v] (truthy v)) := by exact fun _ => rfl) : PT X a (tT X.K O (gTru ga)) := (pt_truth ha he).mono fun σ H Q ⟨U, A0, δ, k, R, ed, q⟩ => by
  obtain ⟨d, e1, e2⟩ := bind1 ed
  refine ⟨U, A0, δ, d, R, e1, fun v H' s h => ⟨k, ?_, q H' s⟩⟩
  cases d with
  | none => cases e2; rw [h.non]; exact rfl
  | bool b => cases e2; rw [h.bool]; exact rfl
  | int i => cases e2; rw [h.int]; exact rfl
  | str x =>
    rw [h.str]
    have e3 : (if x.length ≤ 100000 then some ((x.length : Int) != 0) else none) = some k := e2
    split at e3
    · cases e3; exact ⟨small (by assumption), rfl⟩
    · cases e3
  | list l =>
    cases e2
    obtain ⟨p, xs, rfl, h1, h2⟩ := h.list
    exact .inl ⟨xs, h1.sq, by rw [isEmpty_HD h2]⟩
  | tuple l =>
    cases e2
    obtain ⟨p, xs, rfl, h1, h2⟩ := h.tuple
    exact .inr (.inl ⟨xs, h1, by rw [isEmpty_HD h2]⟩)
  | dict _ => cases e2
def gIfE (c : DS → Option Bool) (a b : DS → Option D) : DS → Option D := fun δ => (c δ).bind fun x => if x = true then a δ else b δ
theorem pd_ifE (hc : PT X c (tT X.K O ta)) (ha : PE X a (tE X.K O ga)) (hb : PE X b (tE X.K O gb)) : PE X (.IfExp c a b pos) (tE X.K O (gIfE ta ga gb)) := (pe_ifExp hc ha hb).mono fun σ H Q ⟨U, A0, δ, d, R, ed, q⟩ => by
  obtain ⟨x, e1, e2⟩ := bind1 ed
  refine ⟨U, A0, δ, _, R, e1, fun H' s => ?_⟩
  cases x with
  | true => rw [if_pos rfl] at e2 ⊢; exact ⟨U, A0, δ, d, R.same s, e2, fun v H2 s2 h2 => q v H2 (s.trans s2) h2⟩
  | false => rw [if_neg Bool.false_ne_true] at e2 ⊢; exact ⟨U, A0, δ, d, R.same s, e2, fun v H2 s2 h2 => q v H2 (s.trans s2) h2⟩
end
/-! ### argument lists, displays -/
def gNilA : DS → Option (List D) := fun _ => some []
def gConsA (a : DS → Option D) (r : DS → Option (List D)) : DS → Option (List D) := fun δ => (a δ).bind fun x => (r δ).bind fun xs => some (x :: xs)
def gTupD (r : DS → Option (List D)) : DS → Option D := fun δ => (r δ).bind fun xs => if xs.length ≤ 100000 then some (.tuple xs) else none
def gLstN (r : DS → Option (List D)) : DS → Option (List D) := fun δ => (r δ).bind fun xs => if xs.length ≤ 100000 then some xs else none
section
variable {X : Cx} {O : List Nat} {e : Expr} {es : List Expr} {ga : DS → Option D} {gr : DS → Option (List D)} {pos : Pos}
theorem pd_anil : PA X [] (tAs X.K O gNilA) := pa_nil.mono fun σ H Q ⟨U, A0, δ, d, R, ed, q⟩ => by cases ed; exact q [] H (Same.refl H) .nil
theorem pd_acons (ha : PE X e (tE X.K O ga)) (hr : PA X es (tAs X.K O gr)) (hs : starEach (e :: es) X.env = (false, eval e X.env) :: starEach es X.env := by rfl) : PA X (e :: es) (tAs X.K O (gConsA ga gr)) := (pa_cons ha hr hs).mono fun σ H Q ⟨U, A0, δ, ds, R, ed, q⟩ => by
  obtain ⟨x, xs, e1, e2, e3⟩ := bind2 ed
  cases e3
  exact ⟨U, A0, δ, x, R, e1, fun v H1 s1 h1 => ⟨U, A0, δ, xs, R.same s1, e2, fun vs H2 s2 h2 => q _ H2 (s1.trans s2) (.cons (h1.same (wo_mono s2)) h2)⟩⟩
theorem pd_shnil : PA X [] (tAsh X.K O gNilA) := pa_nil.mono fun σ H Q ⟨U, A0, δ, d, R, ed, q⟩ => by cases ed; exact q [] H (Same.refl H) .nil
theorem pd_shcons (ha : PE X e (tSh X.K O ga)) (hr : PA X es (tAsh X.K O gr)) (hs : starEach (e :: es) X.env = (false, eval e X.env) :: starEach es X.env := by rfl) : PA X (e :: es) (tAsh X.K O (gConsA ga gr)) := (pa_cons ha hr hs).mono fun σ H Q ⟨U, A0, δ, ds, R, ed, q⟩ => by
  obtain ⟨x, xs, e1, e2, e3⟩ := bind2 ed
  cases e3
  exact ⟨U, A0, δ, x, R, e1, fun v H1 s1 h1 => ⟨U, A0, δ, xs, R.same s1, e2, fun vs H2 s2 h2 => q _ H2 (s1.trans s2) (.cons (h1.same s2) h2)⟩⟩
theorem pd_tup {x1} (h : PA X es (tAs X.K O gr)) : PE X (.Tuple es x1 pos) (tE X.K O (gTupD gr)) := (pe_tup h).mono fun σ H Q ⟨U, A0, δ, d, R, ed, q⟩ => by
  obtain ⟨xs, e1, e2⟩ := bind1 ed
  split at e2
  · rename_i hz
    cases e2
    refine ⟨U, A0, δ, xs, R, e1, fun vs H' s h => ⟨by have := h.len; exact small (by omega), fun p hp => q _ _ (s.trans (same_new hp _)) (HD.newT (R.same s).al hp h)⟩⟩
  · cases e2
theorem pd_lst (h : PA X es (tAs X.K O gr)) : PE X (.List es pos) (tN X.K O (gLstN gr)) := (pe_lst h).mono fun σ H Q ⟨U, A0, δ, d, R, ed, q⟩ => by
  obtain ⟨xs, e1, e2⟩ := bind1 ed
  split at e2
  · rename_i hz
    cases e2
    refine ⟨U, A0, δ, d, R, e1, fun vs H' s h => ⟨by have := h.len; exact small (by omega), fun p hp => new_q s q p vs hp h⟩⟩
  · cases e2
end
/-! ### calls of the text's defs -/
/-- the def is the pure function -/
def spD (K : PySem.W.Frag) (n : Nat) (G : List D → Option D) : Sp := fun vs H Q _ => vs.length = n ∧ ∃ A ds d, Ls A H ∧ HDs K (wo H A) vs ds ∧ G ds = some d ∧ ∀ v H', Same H H' → HD K (wo H' A) v d → Q v H'
/-- .. and hands back a new list -/
def spN (K : PySem.W.Frag) (n : Nat) (G : List D → Option (List D)) : Sp := fun vs H Q _ => vs.length = n ∧ ∃ A ds d, Ls A H ∧ HDs K (wo H A) vs ds ∧ G ds = some d ∧
  ∀ r ys H', Same H H' → H r = none → H' r = some (.lst ys) → HDs K (wo H' (r :: A)) ys d → Q (.ref r) H'
def gCall (G : List D → Option D) (n : Nat) (g : DS → Option (List D)) : DS → Option D := fun δ => (g δ).bind fun ds => if ds.length = n then G ds else none
def gCallN (G : List D → Option (List D)) (n : Nat) (g : DS → Option (List D)) : DS → Option (List D) := fun δ => (g δ).bind fun ds => if ds.length = n then G ds else none
/-- with one's own lists handed in: what comes back holds no list -/
def gCallSh (G : List D → Option D) (n : Nat) (g : DS → Option (List D)) : DS → Option D := fun δ => (g δ).bind fun ds => if ds.length = n then (G ds).bind fun d => if noL d = true then some d else none else none
section
variable {X : Cx} {O : List Nat} {e : Expr} {es : List Expr} {gr : DS → Option (List D)} {pos p : Pos} {n k kk : Nat} {x : Str} {ps : List Str}
theorem ShDs.isDs {K : PySem.W.Frag} {A : List Addr} {H : Hp} : ∀ {vs : List V} {ds : List D}, ShDs K A H vs ds → HDs K H vs ds
  | _, _, .nil => .nil
  | _, _, .cons h t => .cons h.isD (ShDs.isDs t)
theorem pd_call {G : List D → Option D} (F : Dn X.prog X.w X.K X.mg X.base k x ps (spD X.K n G)) (hr : Room kk X.A) (hk : k ≤ kk) (ha : PA X (e :: es) (tAs X.K O gr)) (hg : Gl X x := by rfl)
    (hdb : (x == ("__debug__" : Str)) = false := by decide) (he : starEach (e :: es) X.env = (false, eval e X.env) :: starEach es X.env := by rfl) (hpl : (backTo pos (starEach es X.env)).any (·.1) = false := by rfl) :
    PE X (.Call (.Name x p) (e :: es) [] pos) (tE X.K O (gCall G n gr)) := (pe_fn F hr hk ha hg hdb he hpl).mono fun σ H Q ⟨U, A0, δ, d, R, ed, q⟩ => by
  obtain ⟨ds, e1, e2⟩ := bind1 ed
  split at e2
  · rename_i hn
    refine ⟨U, A0, δ, ds, R, e1, fun vs H' s h => ?_⟩
    show spD X.K n G (vs ++ []) H' Q E0
    rw [List.append_nil]
    exact ⟨by rw [h.len]; exact hn, U ++ A0, ds, d, (R.same s).al, h, e2, fun v H2 s2 h2 => q v H2 (s.trans s2) h2⟩
  · cases e2
theorem pd_callN {G : List D → Option (List D)} (F : Dn X.prog X.w X.K X.mg X.base k x ps (spN X.K n G)) (hr : Room kk X.A) (hk : k ≤ kk) (ha : PA X (e :: es) (tAs X.K O gr)) (hg : Gl X x := by rfl)
    (hdb : (x == ("__debug__" : Str)) = false := by decide) (he : starEach (e :: es) X.env = (false, eval e X.env) :: starEach es X.env := by rfl) (hpl : (backTo pos (starEach es X.env)).any (·.1) = false := by rfl) :
    PE X (.Call (.Name x p) (e :: es) [] pos) (tN X.K O (gCallN G n gr)) := (pe_fn F hr hk ha hg hdb he hpl).mono fun σ H Q ⟨U, A0, δ, d, R, ed, q⟩ => by
  obtain ⟨ds, e1, e2⟩ := bind1 ed
  split at e2
  · rename_i hn
    refine ⟨U, A0, δ, ds, R, e1, fun vs H' s h => ?_⟩
    show spN X.K n G (vs ++ []) H' Q E0
    rw [List.append_nil]
    exact ⟨by rw [h.len]; exact hn, U ++ A0, ds, d, (R.same s).al, h, e2, fun r ys H2 s2 h0 h1 h2 => q r ys H2 (s.trans s2) (s.free h0) h1 h2⟩
  · cases e2
theorem pd_callSh {G : List D → Option D} (F : Dn X.prog X.w X.K X.mg X.base k x ps (spD X.K n G)) (hr : Room kk X.A) (hk : k ≤ kk) (ha : PA X (e :: es) (tAsh X.K O gr)) (hg : Gl X x := by rfl)
    (hdb : (x == ("__debug__" : Str)) = false := by decide) (he : starEach (e :: es) X.env = (false, eval e X.env) :: starEach es X.env := by rfl) (hpl : (backTo pos (starEach es X.env)).any (·.1) = false := by rfl) :
    PE X (.Call (.Name x p) (e :: es) [] pos) (tE X.K O (gCallSh G n gr)) := (pe_fn F hr hk ha hg hdb he hpl).mono fun σ H Q ⟨U, A0, δ, d, R, ed, q⟩ => by
  obtain ⟨ds, e1, e2⟩ := bind1 ed
  split at e2
  · rename_i hn
    obtain ⟨d', e3, e4⟩ := bind1 e2
    split at e4
    · rename_i hL
      cases e4
      refine ⟨U, A0, δ, ds, R, e1, fun vs H' s h => ?_⟩
      show spD X.K n G (vs ++ []) H' Q E0
      rw [List.append_nil]
      have h' := h.isDs
      refine ⟨by rw [h'.len]; exact hn, [], ds, d, fun _ z => by simp at z, by rw [wo_nil]; exact h', e3, fun v H2 s2 h2 => q v H2 (s.trans s2) ?_⟩
      rw [wo_nil] at h2
      exact h2.off (R.same (s.trans s2)).al hL
    · cases e4
  · cases e2
/-- a new list is a value -/
theorem spN_D {K : PySem.W.Frag} {G : List D → Option (List D)} {vs : List V} {H : Hp} {Q : VK} {E : XK} : spD K n (fun ds => (G ds).map .list) vs H Q E → spN K n G vs H Q E := fun ⟨hn, A, ds, d, al, h, e, q⟩ => by
  have e' : (G ds).map PyData.list = some d := e
  cases eg : G ds with
  | none => rw [eg] at e'; cases e'
  | some l =>
    rw [eg] at e'; cases e'
    refine ⟨hn, A, ds, l, al, h, eg, fun r ys H' s hr h1 h2 => q _ H' s ?_⟩
    exact .lst (.of (by rw [wo_out (al.free hr)]; exact h1)) (h2.same (wo_sub fun a ha => List.mem_cons_of_mem _ ha))
end
/-! ### built-in functions -/
def ImpC (K : PySem.W.Frag) (r : List V → Hp → VK → Prop) (f : List D → Option D) : Prop := ∀ (A : List Addr) (H : Hp) (vs : List V) (ds : List D) (d : D) (Q : VK), Ls A H → ShDs K A H vs ds → f ds = some d → (∀ v H', Same H H' → HD K (wo H' A) v d → Q v H') → r vs H Q
def ImpCN (K : PySem.W.Frag) (r : List V → Hp → VK → Prop) (f : List D → Option (List D)) : Prop := ∀ (A : List Addr) (H : Hp) (vs : List V) (ds : List D) (d : List D) (Q : VK), Ls A H → ShDs K A H vs ds → f ds = some d →
  (∀ p ys, H p = none → HDs K (wo H A) ys d → Q (.ref p) (upd H p (.lst ys))) → r vs H Q
def gB1 (f : List D → Option D) (g : DS → Option (List D)) : DS → Option D := fun δ => (g δ).bind f
def gB1N (f : List D → Option (List D)) (g : DS → Option (List D)) : DS → Option (List D) := fun δ => (g δ).bind f
section
variable {X : Cx} {O : List Nat} {e : Expr} {es : List Expr} {gr : DS → Option (List D)} {pos p : Pos} {x : Str} {r : List V → Hp → VK → Prop} {id T : String}
theorem tCB_E {K : PySem.W.Frag} {f : List D → Option D} (imp : ImpC K r f) {σ : St} {H : Hp} {Q : VK} : tE K O (gB1 f gr) σ H Q → tCB r (tAsh K O gr) σ H Q := fun ⟨U, A0, δ, d, R, ed, q⟩ => by
  obtain ⟨ds, e1, e2⟩ := bind1 ed
  exact ⟨U, A0, δ, ds, R, e1, fun vs H' s h => imp _ H' vs ds d Q (R.same s).al h e2 fun v H2 s2 h2 => q v H2 (s.trans s2) h2⟩
theorem tCB_N {K : PySem.W.Frag} {f : List D → Option (List D)} (imp : ImpCN K r f) {σ : St} {H : Hp} {Q : VK} : tN K O (gB1N f gr) σ H Q → tCB r (tAsh K O gr) σ H Q := fun ⟨U, A0, δ, d, R, ed, q⟩ => by
  obtain ⟨ds, e1, e2⟩ := bind1 ed
  exact ⟨U, A0, δ, ds, R, e1, fun vs H' s h => imp _ H' vs ds d Q (R.same s).al h e2 (new_q s q)⟩
theorem pd_callB {f : List D → Option D} (hc : CallR X (.builtin id) r) (imp : ImpC X.K r f) (hg : Gl X x) (hm : X.mg x = none) (hv : bootBuiltins x = some (.builtin id)) (ha : PA X (e :: es) (tAsh X.K O gr)) (hn : x ≠ "__name__" := by decide) (hdb : (x == ("__debug__" : Str)) = false := by decide)
    (he : starEach (e :: es) X.env = (false, eval e X.env) :: starEach es X.env := by rfl) (hpl : (backTo pos (starEach es X.env)).any (·.1) = false := by rfl) : PE X (.Call (.Name x p) (e :: es) [] pos) (tE X.K O (gB1 f gr)) :=
  (pe_callB hc hg hm hv ha hn hdb he hpl).mono fun _ _ _ => tCB_E imp
theorem pd_callTy {f : List D → Option D} (hc : CallR X (.type T) r) (imp : ImpC X.K r f) (hg : Gl X x) (hm : X.mg x = none) (hv : bootBuiltins x = some (.type T)) (ha : PA X (e :: es) (tAsh X.K O gr)) (hn : x ≠ "__name__" := by decide) (hdb : (x == ("__debug__" : Str)) = false := by decide)
    (he : starEach (e :: es) X.env = (false, eval e X.env) :: starEach es X.env := by rfl) (hpl : (backTo pos (starEach es X.env)).any (·.1) = false := by rfl) : PE X (.Call (.Name x p) (e :: es) [] pos) (tE X.K O (gB1 f gr)) :=
  (pe_callTy hc hg hm hv ha hn hdb he hpl).mono fun _ _ _ => tCB_E imp
theorem pd_callTyN {f : List D → Option (List D)} (hc : CallR X (.type T) r) (imp : ImpCN X.K r f) (hg : Gl X x) (hm : X.mg x = none) (hv : bootBuiltins x = some (.type T)) (ha : PA X (e :: es) (tAsh X.K O gr)) (hn : x ≠ "__name__" := by decide) (hdb : (x == ("__debug__" : Str)) = false := by decide)
    (he : starEach (e :: es) X.env = (false, eval e X.env) :: starEach es X.env := by rfl) (hpl : (backTo pos (starEach es X.env)).any (·.1) = false := by rfl) : PE X (.Call (.Name x p) (e :: es) [] pos) (tN X.K O (gB1N f gr)) :=
  (pe_callTy hc hg hm hv ha hn hdb he hpl).mono fun _ _ _ => tCB_N imp
end
theorem sh1 {K : PySem.W.Frag} {A : List Addr} {H : Hp} {vs : List V} {d : D} (h : ShDs K A H vs [d]) : ∃ v, vs = [v] ∧ ShD K A H v d := by
  unfold ShDs at h
  cases h with
  | cons a t => cases t; exact ⟨_, rfl, a⟩
theorem sh2 {K : PySem.W.Frag} {A : List Addr} {H : Hp} {vs : List V} {d e : D} (h : ShDs K A H vs [d, e]) : ∃ v u, vs = [v, u] ∧ ShD K A H v d ∧ ShD K A H u e := by
  unfold ShDs at h
  cases h with
  | cons a t => cases t with
    | cons b t => cases t; exact ⟨_, _, rfl, a, b⟩
def dLen : List D → Option D
  | [.list l] => some (.int l.length)
  | [.tuple l] => some (.int l.length)
  | [.str z] => if z.length ≤ 100000 then some (.int z.length) else none
  | _ => none
theorem call_lenU {X : Cx} : CallR X (.builtin "len") (fun xs H Q => (∃ p ys, xs = [.ref p] ∧ (SqL X.K H p ys ∨ SqT X.K H p ys) ∧ Q (.int ys.length) H) ∨ ∃ z, xs = [.str z] ∧ z.length ≤ sizeLine ∧ Q (.int z.length) H) := call_len_seq.or call_len_str
theorem imp_len {K : PySem.W.Frag} : ImpC K (fun xs H Q => (∃ p ys, xs = [.ref p] ∧ (SqL K H p ys ∨ SqT K H p ys) ∧ Q (.int ys.length) H) ∨ ∃ z, xs = [.str z] ∧ z.length ≤ sizeLine ∧ Q (.int z.length) H) dLen := by
  intro A H vs ds d Q al h e q
  unfold dLen at e
  split at e
  · cases e
    obtain ⟨v, rfl, h1⟩ := sh1 h
    clear h
    have h := h1
    obtain ⟨p, xs, rfl, h1, h2⟩ := h.list
    refine .inl ⟨p, xs, rfl, .inl h1.sq, ?_⟩
    rw [h2.len]
    exact q _ H (Same.refl H) (.int _)
  · cases e
    obtain ⟨v, rfl, h1⟩ := sh1 h
    clear h
    have h := h1
    obtain ⟨p, xs, rfl, h1, h2⟩ := h.tuple
    refine .inl ⟨p, xs, rfl, .inr h1, ?_⟩
    rw [h2.len]
    exact q _ H (Same.refl H) (.int _)
  · split at e
    · cases e
      obtain ⟨v, rfl, h1⟩ := sh1 h
      exact .inr ⟨_, by rw [h1.str], small (by assumption), q _ H (Same.refl H) (.int _)⟩
    · cases e
  · cases e
def dAbs : List D → Option D
  | [.int i] => some (.int (if i < 0 then -i else i))
  | _ => none
theorem imp_abs {K : PySem.W.Frag} : ImpC K (fun xs H Q => ∃ i, xs = [.int i] ∧ Q (.int (if i < 0 then -i else i)) H) dAbs := by
  intro A H vs ds d Q al h e q
  unfold dAbs at e
  split at e
  · cases e
    obtain ⟨v, rfl, h1⟩ := sh1 h
    clear h
    have h := h1
    exact ⟨_, by rw [h.int], q _ H (Same.refl H) (.int _)⟩
  · cases e
def dMax2 : List D → Option D
  | [.int i, .int j] => some (.int (if j > i then j else i))
  | _ => none
def dMin2 : List D → Option D
  | [.int i, .int j] => some (.int (if j < i then j else i))
  | _ => none
theorem imp_max {K : PySem.W.Frag} : ImpC K (fun xs H Q => ∃ i j, xs = [.int i, .int j] ∧ Q (.int (if j > i then j else i)) H) dMax2 := by
  intro A H vs ds d Q al h e q
  unfold dMax2 at e
  split at e
  · cases e
    obtain ⟨v, u, rfl, h1, h'⟩ := sh2 h
    clear h
    have h := h1
    exact ⟨_, _, by rw [h.int, h'.int], q _ H (Same.refl H) (.int _)⟩
  · cases e
theorem imp_min {K : PySem.W.Frag} : ImpC K (fun xs H Q => ∃ i j, xs = [.int i, .int j] ∧ Q (.int (if j < i then j else i)) H) dMin2 := by
  intro A H vs ds d Q al h e q
  unfold dMin2 at e
  split at e
  · cases e
    obtain ⟨v, u, rfl, h1, h'⟩ := sh2 h
    clear h
    have h := h1
    exact ⟨_, _, by rw [h.int, h'.int], q _ H (Same.refl H) (.int _)⟩
  · cases e
def dInt : List D → Option D
  | [.int i] => some (.int i)
  | [.bool k] => some (.int (if k then 1 else 0))
  | _ => none
theorem imp_int {K : PySem.W.Frag} : ImpC K (fun xs H Q => (∃ i, xs = [.int i] ∧ Q (.int i) H) ∨ ∃ k, xs = [.bl k] ∧ Q (.int (if k then 1 else 0)) H) dInt := by
  intro A H vs ds d Q al h e q
  unfold dInt at e
  split at e
  · cases e
    obtain ⟨v, rfl, h1⟩ := sh1 h
    clear h
    have h := h1
    exact .inl ⟨_, by rw [h.int], q _ H (Same.refl H) (.int _)⟩
  · cases e
    obtain ⟨v, rfl, h1⟩ := sh1 h
    clear h
    have h := h1
    exact .inr ⟨_, by rw [h.bool], q _ H (Same.refl H) (.int _)⟩
  · cases e
def dListN : List D → Option (List D)
  | [.list l] => some l
  | [.tuple l] => some l
  | _ => none
theorem imp_list {K : PySem.W.Frag} : ImpCN K (fun xs H Q => ∃ p ys, xs = [.ref p] ∧ (SqL K H p ys ∨ SqT K H p ys) ∧ ∀ l, H l = none → Q (.ref l) (upd H l (.lst ys))) dListN := by
  intro A H vs ds d Q al h e q
  unfold dListN at e
  split at e
  · cases e
    obtain ⟨v, rfl, h1⟩ := sh1 h
    clear h
    have h := h1
    obtain ⟨p, xs, rfl, h1, h2⟩ := h.list
    exact ⟨p, xs, rfl, .inl h1.sq, fun l hl => q l xs hl h2⟩
  · cases e
    obtain ⟨v, rfl, h1⟩ := sh1 h
    clear h
    have h := h1
    obtain ⟨p, xs, rfl, h1, h2⟩ := h.tuple
    exact ⟨p, xs, rfl, .inr h1, fun l hl => q l xs hl h2⟩
  · cases e
def dTupleOf : List D → Option D
  | [.list l] => some (.tuple l)
  | [.tuple l] => some (.tuple l)
  | _ => none
theorem imp_tuple {K : PySem.W.Frag} : ImpC K (fun xs H Q => ∃ p ys, xs = [.ref p] ∧ ((SqL K H p ys ∧ ∀ l, H l = none → Q (.ref l) (upd H l (.tup ys))) ∨ (SqT K H p ys ∧ Q (.ref p) H))) dTupleOf := by
  intro A H vs ds d Q al h e q
  unfold dTupleOf at e
  split at e
  · cases e
    obtain ⟨v, rfl, h1⟩ := sh1 h
    clear h
    have h := h1
    obtain ⟨p, xs, rfl, h1, h2⟩ := h.list
    exact ⟨p, xs, rfl, .inl ⟨h1.sq, fun l hl => q _ _ (same_new hl _) (HD.newT al hl h2)⟩⟩
  · cases e
    obtain ⟨v, rfl, h1⟩ := sh1 h
    clear h
    have h := h1
    have h' := h.fz
    obtain ⟨p, xs, rfl, h1, h2⟩ := h.tuple
    exact ⟨p, xs, rfl, .inr ⟨h1, q _ H (Same.refl H) h'⟩⟩
  · cases e
/-! ### isinstance -/
def tyName : D → String
  | .none => "NoneType"
  | .bool _ => "bool"
  | .int _ => "int"
  | .str _ => "str"
  | .list _ => "list"
  | .tuple _ => "tuple"
  | .dict _ => "dict"
def isiT (t n : String) : Option Bool := if t = n then some true else if (t = "bool" ∧ n = "int") then some true else if t = "NoneType" ∨ t = "dict" then none else if n = "int" ∨ n = "bool" ∨ n = "str" ∨ n = "list" ∨ n = "tuple" then some false else none
end L2

/-! MY OWN: statements, loops, defs of the pure reading -/
namespace L2
open PySem PySem.Spec PyProof.Rows
/-! ### isinstance -/
theorem kit_of {K : PySem.W.Frag} {t n : String} {b : Bool} (h : (Value.type t == Value.type n) = false) (h2 : PySem.W.kitMeta n = true) (h3 : (fastBuiltinMro t).map (·.contains (Value.type n)) = some b) : PySem.W.kitOne K (.type t) (.type n) = some b := by
  unfold PySem.W.kitOne PySem.W.kitCls
  rw [h, if_neg (by decide)]
  show (if PySem.W.kitMeta n = true then PySem.W.subIn K (.type t) (.type n) else none) = some b
  rw [if_pos h2]
  exact h3
def isiNames : List String := ["int", "bool", "str", "list", "tuple"]
def dIsi (n : String) : List D → Option D
  | [d] => if tyName d ∈ isiNames ∧ n ∈ isiNames then some (.bool (decide (tyName d = n) || (decide (tyName d = "bool") && decide (n = "int")))) else none
  | _ => none
theorem kit_tab {K : PySem.W.Frag} {t n : String} (ht : t ∈ isiNames) (hn : n ∈ isiNames) : PySem.W.kitOne K (.type t) (.type n) = some (decide (t = n) || (decide (t = "bool") && decide (n = "int"))) := by
  by_cases h : t = n
  · subst h
    rw [kit_same]; simp
  · have all : ∀ t ∈ isiNames, ∀ n ∈ isiNames, t ≠ n → (Value.type t == Value.type n) = false ∧ PySem.W.kitMeta n = true ∧ (fastBuiltinMro t).map (·.contains (Value.type n)) = some (decide (t = n) || (decide (t = "bool") && decide (n = "int"))) := by decide +kernel
    obtain ⟨h1, h2, h3⟩ := all t ht n hn h
    exact kit_of h1 h2 h3
theorem ShD.ty {K : PySem.W.Frag} {A : List Addr} {H : Hp} {v : V} {d : D} (h : ShD K A H v d) (hn : tyName d ∈ isiNames) : TyW K H v (tyName d) := by
  cases d with
  | none => simp [tyName, isiNames] at hn
  | bool b => rw [h.bool]; exact .inl (.bl b)
  | int i => rw [h.int]; exact .inl (.int i)
  | str x => rw [h.str]; exact .inl (.str x)
  | list l => obtain ⟨p, xs, rfl, h1, _⟩ := h.list; exact .inr (.inr ⟨p, xs, rfl, h1.sq, rfl⟩)
  | tuple l => obtain ⟨p, xs, rfl, h1, _⟩ := h.tuple; exact .inr (.inl ⟨p, xs, rfl, h1, rfl⟩)
  | dict l => simp [tyName, isiNames] at hn
section
variable {X : Cx} {O : List Nat} {e : Expr} {ga : DS → Option D} {pos p p2 : Pos}
def gIsi (n : String) (g : DS → Option D) : DS → Option D := fun δ => (g δ).bind fun d => dIsi n [d]
theorem pd_isi {n : Str} (T : String) (hB : X.mg "isinstance" = none) (ha : PE X e (tSh X.K O ga)) (ht : PE X (.Name n p2) (tC (.ty T))) (hg : Gl X "isinstance" := by rfl)
    (he : starEach [e, .Name n p2] X.env = (false, eval e X.env) :: starEach [.Name n p2] X.env := by rfl) (he2 : starEach [.Name n p2] X.env = (false, eval (.Name n p2) X.env) :: starEach [] X.env := by rfl) (hpl : (backTo pos (starEach [.Name n p2] X.env)).any (·.1) = false := by rfl) :
    PE X (.Call (.Name "isinstance" p) [e, .Name n p2] [] pos) (tE X.K O (gIsi T ga)) :=
  (pe_callB call_isi hg hB bt_isinstance (pa_cons ha (pa_cons ht pa_nil he2) he) (by decide) (by decide) he hpl).mono fun σ H Q ⟨U, A0, δ, d, R, ed, q⟩ => by
    obtain ⟨x, e1, e2⟩ := bind1 ed
    have e3 : (if tyName x ∈ isiNames ∧ T ∈ isiNames then some (PyData.bool (decide (tyName x = T) || (decide (tyName x = "bool") && decide (T = "int")))) else none) = some d := e2
    split at e3
    · rename_i hz
      cases e3
      refine ⟨U, A0, δ, x, R, e1, fun v H' s h => ?_⟩
      exact ⟨v, T, tyName x, _, rfl, h.ty hz.1, kit_tab hz.1 hz.2, q _ H' s (.bl _)⟩
    · cases e3
end
/-! ### slices -/
def gPart (g : DS → Option D) : DS → Option (Option Int) := fun δ => (g δ).bind fun | .int i => some (some i) | _ => none
def gNoPart : DS → Option (Option Int) := fun _ => some none
def tOs (K : PySem.W.Frag) (O : List Nat) (g : DS → Option (Option Int)) : TO := fun σ H Q => ∃ U A0 δ d, Rel K O U A0 σ δ H ∧ g δ = some d ∧ ∀ H', Same H H' → Q d H'
def cutD (xs : List D) (lo hi : Option Int) : List D := (xs.drop (HT.sIx xs.length 0 lo)).take (HT.sIx xs.length xs.length hi - HT.sIx xs.length 0 lo)
def gSlL (a : DS → Option D) (lo hi : DS → Option (Option Int)) : DS → Option (List D) := fun δ => (a δ).bind fun x => (lo δ).bind fun l => (hi δ).bind fun h => match x with
  | .list ds => some (cutD ds l h)
  | _ => none
section
variable {X : Cx} {O : List Nat} {e : Expr} {lo hi : Option Expr} {ga : DS → Option D} {gl gh : DS → Option (Option Int)} {pos p2 : Pos}
theorem pd_pnone : PO X none (tOs X.K O gNoPart) := po_none.mono fun σ H Q ⟨U, A0, δ, d, R, ed, q⟩ => by cases ed; exact q H (Same.refl H)
theorem pd_psome (h : PE X e (tSh X.K O ga)) : PO X (some e) (tOs X.K O (gPart ga)) := (po_some h).mono fun σ H Q ⟨U, A0, δ, d, R, ed, q⟩ => by
  obtain ⟨x, e1, e2⟩ := bind1 ed
  cases x with
  | int i => cases e2; exact ⟨U, A0, δ, _, R, e1, fun v H' s h => ⟨i, h.int, q H' s⟩⟩
  | _ => cases e2
theorem pd_slL (ha : PE X e (tSh X.K O ga)) (hl : PO X lo (tOs X.K O gl)) (hh : PO X hi (tOs X.K O gh)) : PE X (.Subscript e (.Slice lo hi none p2) pos) (tN X.K O (gSlL ga gl gh)) := (pe_slice sl_list ha hl hh).mono fun σ H Q ⟨U, A0, δ, d, R, ed, q⟩ => by
  obtain ⟨x, e1, e2⟩ := bind1 ed
  obtain ⟨l, e3, e4⟩ := bind1 e2
  obtain ⟨h, e5, e6⟩ := bind1 e4
  cases x with
  | list ds =>
    cases e6
    refine ⟨U, A0, δ, _, R, e1, fun v H1 s1 h1 => ⟨U, A0, δ, l, R.same s1, e3, fun H2 s2 => ⟨U, A0, δ, h, R.same (s1.trans s2), e5, fun H3 s3 => ?_⟩⟩⟩
    obtain ⟨p, xs, rfl, r1, r2⟩ := (h1.same (s2.trans s3)).list
    refine ⟨p, xs, rfl, r1.sq, fun r hr => new_q ((s1.trans s2).trans s3) q r _ hr ?_⟩
    unfold cutV cutD
    rw [r2.len]
    exact (r2.dropD _).takeD _
  | _ => cases e6
end
/-! ### statements -/
def gSeq (a b : DS → Option Res) : DS → Option Res := fun δ => (a δ).bind fun | .nx δ' => b δ' | r => some r
def gSkip : DS → Option Res := fun δ => some (.nx δ)
def gIf (c : DS → Option Bool) (a b : DS → Option Res) : DS → Option Res := fun δ => (c δ).bind fun x => if x = true then a δ else b δ
def gSet (i : Nat) (g : DS → Option D) : DS → Option Res := fun δ => (g δ).bind fun d => some (.nx (δ.set i (some d)))
def gSetN (i : Nat) (g : DS → Option (List D)) : DS → Option Res := fun δ => (g δ).bind fun d => some (.nx (δ.set i (some (.list d))))
def gRet (g : DS → Option D) : DS → Option Res := fun δ => (g δ).bind fun d => some (.rt d)
def gDrop (g : DS → Option D) : DS → Option Res := fun δ => (g δ).bind fun _ => some (.nx δ)
def gAsg (g : DS → Option D) (t : D → DS → Option DS) : DS → Option Res := fun δ => (g δ).bind fun d => (t d δ).bind fun δ' => some (.nx δ')
section
variable {X : Cx} {O : List Nat} {fr : Bool} {st : Stmt} {rest a b : List Stmt} {ga gb : DS → Option Res} {gc : DS → Option Bool} {ge : DS → Option D} {gl : DS → Option (List D)} {e c : Expr} {pos : Pos}
theorem pd_seq (h1 : PS X st (tS X.K O fr ga)) (h2 : PSs X rest (tS X.K O fr gb)) : PSs X (st :: rest) (tS X.K O fr (gSeq ga gb)) := (pss_cons h1 h2).mono fun E σ H ⟨H0, U, A0, δ, r, R, F, ed, P⟩ => by
  obtain ⟨r1, e1, e2⟩ := bind1 ed
  cases r1 with
  | nx δ' => exact ⟨H0, U, A0, δ, .nx δ', R, F, e1, fun U' σ' H' R' F' => ⟨H0, U', A0, δ', r, R', F', e2, P⟩⟩
  | rt d => cases e2; exact ⟨H0, U, A0, δ, _, R, F, e1, P⟩
  | bk d => cases e2; exact ⟨H0, U, A0, δ, _, R, F, e1, P⟩
  | ct d => cases e2; exact ⟨H0, U, A0, δ, _, R, F, e1, P⟩
theorem pd_one (h1 : PS X st (tS X.K O fr ga)) : PSs X [st] (tS X.K O fr ga) := pss_one h1
theorem pd_nil : PSs X [] (tS X.K O fr gSkip) := pss_nil.mono fun E σ H ⟨H0, U, A0, δ, r, R, F, ed, P⟩ => by cases ed; exact P U σ H R F
theorem pd_pass : PS X (.Pass pos) (tS X.K O fr gSkip) := ps_pass.mono fun E σ H ⟨H0, U, A0, δ, r, R, F, ed, P⟩ => by cases ed; exact P U σ H R F
theorem pd_break : PS X (.Break pos) (tS X.K O fr fun δ => some (.bk δ)) := ps_break.mono fun E σ H ⟨H0, U, A0, δ, r, R, F, ed, P⟩ => by cases ed; exact P U σ H R F
theorem pd_cont : PS X (.Continue pos) (tS X.K O fr fun δ => some (.ct δ)) := ps_continue.mono fun E σ H ⟨H0, U, A0, δ, r, R, F, ed, P⟩ => by cases ed; exact P U σ H R F
theorem pd_never : PS X st (tS X.K O fr fun _ => none) := ps_never.mono fun E σ H ⟨H0, U, A0, δ, r, R, F, ed, P⟩ => by cases ed
theorem pd_nevers : PSs X rest (tS X.K O fr fun _ => none) := pss_never.mono fun E σ H ⟨H0, U, A0, δ, r, R, F, ed, P⟩ => by cases ed
theorem pd_if (hc : PT X c (tT X.K O gc)) (ha : PSs X a (tS X.K O fr ga)) (hb : PSs X b (tS X.K O fr gb)) : PS X (.If c a b pos) (tS X.K O fr (gIf gc ga gb)) := (ps_if hc ha hb).mono fun E σ H ⟨H0, U, A0, δ, r, R, F, ed, P⟩ => by
  obtain ⟨x, e1, e2⟩ := bind1 ed
  refine ⟨U, A0, δ, x, R, e1, fun H' s => ?_⟩
  cases x with
  | true => rw [if_pos rfl] at e2 ⊢; exact ⟨H0, U, A0, δ, r, R.same s, F.grow s, e2, P⟩
  | false => rw [if_neg Bool.false_ne_true] at e2 ⊢; exact ⟨H0, U, A0, δ, r, R.same s, F.grow s, e2, P⟩
theorem pd_set {i : Nat} (h : PS X st (tAsg (tE X.K O ge) (gName i))) (hi : i ∉ O := by decide) : PS X st (tS X.K O fr (gSet i ge)) := h.mono fun E σ H ⟨H0, U, A0, δ, r, R, F, ed, P⟩ => by
  obtain ⟨d, e1, e2⟩ := bind1 ed
  cases e2
  exact ⟨U, A0, δ, d, R, e1, fun v H' s hv => P U _ H' ((R.same s).set hi hv) (F.grow s)⟩
theorem pd_setN {i : Nat} (h : PS X st (tAsg (tN X.K O gl) (gName i))) (hi : i ∈ O := by decide) : PS X st (tS X.K O fr (gSetN i gl)) := h.mono fun E σ H ⟨H0, U, A0, δ, r, R, F, ed, P⟩ => by
  obtain ⟨d, e1, e2⟩ := bind1 ed
  cases e2
  exact ⟨U, A0, δ, d, R, e1, fun r ys H' s hr h1 h2 => P (r :: U) _ H' (R.setN s hr h1 h2 hi) (F.more s hr)⟩
theorem pd_asg {gt : D → DS → Option DS} (h : PS X st (tAsg (tE X.K O ge) (tG X.K O gt))) : PS X st (tS X.K O fr (gAsg ge gt)) := h.mono fun E σ H ⟨H0, U, A0, δ, r, R, F, ed, P⟩ => by
  obtain ⟨d, e1, e2⟩ := bind1 ed
  obtain ⟨δ', e3, e4⟩ := bind1 e2
  cases e4
  exact ⟨U, A0, δ, d, R, e1, fun v H' s hv => ⟨U, A0, δ, d, δ', R.same s, hv, e3, fun σ' R' => P U σ' H' R' (F.grow s)⟩⟩
theorem pd_drop (h : PS X st (tDrop (tE X.K O ge))) : PS X st (tS X.K O fr (gDrop ge)) := h.mono fun E σ H ⟨H0, U, A0, δ, r, R, F, ed, P⟩ => by
  obtain ⟨d, e1, e2⟩ := bind1 ed
  cases e2
  exact ⟨U, A0, δ, d, R, e1, fun v H' s hv => P U σ H' (R.same s) (F.grow s)⟩
/-! ### return -/
theorem pd_ret (h : PE X e (tE X.K O ge)) : PS X (.Return (some e) pos) (tS X.K O false (gRet ge)) := (ps_ret h).mono fun E σ H ⟨H0, U, A0, δ, r, R, F, ed, P⟩ => by
  obtain ⟨d, e1, e2⟩ := bind1 ed
  cases e2
  refine ⟨U, A0, δ, d, R, e1, fun v H' s hv => P v H' ?_⟩
  unfold RetR
  rw [if_neg Bool.false_ne_true]
  exact ⟨F.same.trans s, hv.same (wo_sub fun a ha => List.mem_append_right _ ha)⟩
theorem pd_retNone : PS X (.Return none pos) (tS X.K O false (gRet (gC .none))) := ps_retN.mono fun E σ H ⟨H0, U, A0, δ, r, R, F, ed, P⟩ => by
  cases ed
  refine P .non H ?_
  unfold RetR
  rw [if_neg Bool.false_ne_true]
  exact ⟨F.same, .non⟩
theorem pd_retN (h : PE X e (tN X.K O gl)) : PS X (.Return (some e) pos) (tS X.K O true (gRet (gLst gl))) := (ps_ret h).mono fun E σ H ⟨H0, U, A0, δ, r, R, F, ed, P⟩ => by
  obtain ⟨d, e1, e2⟩ := bind1 ed
  cases e2
  unfold gLst at e1
  cases eg : gl δ with
  | none => rw [eg] at e1; cases e1
  | some l =>
    rw [eg] at e1; cases e1
    refine ⟨U, A0, δ, l, R, eg, fun r ys H' s hr h1 h2 => P (.ref r) H' ?_⟩
    unfold RetR
    rw [if_pos rfl]
    refine ⟨r, ys, l, rfl, rfl, F.same.trans s, F.same.free hr, h1, h2.same (wo_sub fun a ha => ?_)⟩
    rcases List.mem_cons.mp ha with z | z
    · subst z; simp
    · exact List.mem_cons_of_mem _ (List.mem_append_right _ z)
/-- one's own list is handed back -/
theorem pd_retOwn {i : Nat} (h : PE X e (tVar i)) (hi : i ∈ O := by decide) : PS X (.Return (some e) pos) (tS X.K O fr (gRet (gVar i))) := (ps_ret h).mono fun E σ H ⟨H0, U, A0, δ, r, R, F, ed, P⟩ => by
  obtain ⟨d, e1, e2⟩ := bind1 ed
  cases e2
  obtain ⟨l, ys, ds, hl, rfl, hU, h1, h2⟩ := R.ow i d hi (join_some e1)
  refine ⟨.ref l, hl, P (.ref l) H ?_⟩
  unfold RetR
  split
  · refine ⟨l, ys, ds, rfl, rfl, F.same, F.new l hU, h1, h2.same (wo_sub fun a ha => ?_)⟩
    rcases List.mem_cons.mp ha with z | z
    · subst z; exact List.mem_append_left _ hU
    · exact List.mem_append_right _ z
  · refine ⟨F.same, .lst (.of ?_) (h2.same (wo_sub fun a ha => List.mem_append_right _ ha))⟩
    rw [wo_out (F.out hU)]; exact h1
/-! ### one's own list is changed -/
def gApp (i : Nat) (g : DS → Option D) : DS → Option Res := fun δ => (gVar i δ).bind fun x => (g δ).bind fun d => match x with
  | .list ds => if ds.length < 100000 then some (.nx (δ.set i (some (.list (ds ++ [d]))))) else none
  | _ => none
theorem pd_append {i : Nat} (h : PS X st (tDrop (tBM X.K "list" rAppend (tVar i) (tCons (tE X.K O ge) tNil)))) (hi : i ∈ O := by decide) : PS X st (tS X.K O fr (gApp i ge)) := h.mono fun E σ H ⟨H0, U, A0, δ, r, R, F, ed, P⟩ => by
  obtain ⟨x, e1, e2⟩ := bind1 ed
  obtain ⟨d, e3, e4⟩ := bind1 e2
  obtain ⟨l, ys, ds, hl, rfl, hU, h1, h2⟩ := R.ow i x hi (join_some e1)
  simp only at e4
  split at e4
  · rename_i hz
    cases e4
    refine ⟨.ref l, hl, .inl ⟨rfl, ys, SqL.of h1⟩, U, A0, δ, d, R, e3, fun v H' s hv => ?_⟩
    have h1' := s _ _ h1
    have h2' := h2.same (wo_mono (A := U ++ A0) s)
    have hlen := h2.len
    refine ⟨l, ys, v, rfl, rfl, h1', small' (by omega), ?_⟩
    exact P U σ _ ((R.same s).put hi hl hU (h2'.app (.cons hv .nil)) ⟨_, join_some e1⟩) ((F.grow s).put hU _)
  · cases e4
def gPop (i : Nat) : DS → Option Res := fun δ => (gVar i δ).bind fun x => match x with
  | .list ds => if ds = [] then none else some (.nx (δ.set i (some (.list ds.dropLast))))
  | _ => none
theorem pd_pop {i : Nat} (h : PS X st (tDrop (tBM0 X.K "list" rPop (tVar i)))) (hi : i ∈ O := by decide) : PS X st (tS X.K O fr (gPop i)) := h.mono fun E σ H ⟨H0, U, A0, δ, r, R, F, ed, P⟩ => by
  obtain ⟨x, e1, e2⟩ := bind1 ed
  obtain ⟨l, ys, ds, hl, rfl, hU, h1, h2⟩ := R.ow i x hi (join_some e1)
  simp only at e2
  split at e2
  · cases e2
  · rename_i hz
    cases e2
    have hlen := h2.len
    have hpos : 0 < ds.length := List.length_pos_iff.mpr hz
    obtain ⟨y, hy⟩ : ∃ y, ys[ys.length - 1]? = some y := ⟨_, List.getElem?_eq_getElem (by omega)⟩
    refine ⟨.ref l, hl, .inl ⟨rfl, ys, SqL.of h1⟩, l, ys, y, rfl, rfl, h1, hy, ?_⟩
    exact P U σ _ (R.put hi hl hU h2.dropLastD ⟨_, join_some e1⟩) (F.put hU _)
/-- xs[i] = e -/
def gSetIx (i : Nat) (gx ge : DS → Option D) : DS → Option Res := fun δ => (ge δ).bind fun d => (gVar i δ).bind fun x => (gx δ).bind fun k => match x, k with
  | .list ds, .int n => (ixN ds.length n).bind fun j => some (.nx (δ.set i (some (.list (ds.set j d)))))
  | _, _ => none
theorem pd_setIx {i : Nat} {gx : DS → Option D} (h : PS X st (tAsg (tE X.K O ge) (gSub (tVar i) (tSh X.K O gx) rSetL))) (hi : i ∈ O := by decide) : PS X st (tS X.K O fr (gSetIx i gx ge)) := h.mono fun E σ H ⟨H0, U, A0, δ, r, R, F, ed, P⟩ => by
  obtain ⟨d, e1, e2⟩ := bind1 ed
  obtain ⟨x, e3, e4⟩ := bind1 e2
  obtain ⟨k, e5, e6⟩ := bind1 e4
  obtain ⟨l, ys, ds, hl, rfl, hU, h1, h2⟩ := R.ow i x hi (join_some e3)
  cases k with
  | int n =>
    obtain ⟨j, e7, e8⟩ := bind1 e6
    cases e8
    refine ⟨U, A0, δ, d, R, e1, fun v H1 s1 hv => ⟨.ref l, hl, U, A0, δ, _, R.same s1, e5, fun v2 H2 s2 h2' => ?_⟩⟩
    have s := s1.trans s2
    refine ⟨l, ys, n, j, rfl, h2'.int, s _ _ h1, by rw [h2.len]; exact e7, ?_⟩
    exact P U σ _ ((R.same s).put hi hl hU (HDs.setD (hv.same (wo_mono s2)) j (h2.same (wo_mono s))) ⟨_, join_some e3⟩) ((F.grow s).put hU _)
  | _ => cases e6
/-- n += e, n a number -/
def gAugI (i : Nat) (f : Int → Int → Int) (ge : DS → Option D) : DS → Option Res := fun δ => (gVar i δ).bind fun x => (ge δ).bind fun y => match x, y with
  | .int a, .int b => some (.nx (δ.set i (some (.int (f a b)))))
  | _, _ => none
theorem pd_augI {i : Nat} {f : Int → Int → Int} (h : PS X st (tAug i (tSh X.K O ge) (ipI f))) (hi : i ∉ O := by decide) : PS X st (tS X.K O fr (gAugI i f ge)) := h.mono fun E σ H ⟨H0, U, A0, δ, r, R, F, ed, P⟩ => by
  obtain ⟨x, e1, e2⟩ := bind1 ed
  obtain ⟨y, e3, e4⟩ := bind1 e2
  obtain ⟨v, hv, hd⟩ := R.fz i x hi (join_some e1)
  cases x with
  | int m => cases y with
    | int n =>
      cases e4
      cases hd
      refine ⟨_, hv, U, A0, δ, _, R, e3, fun u H' s hu => ⟨m, n, rfl, hu.int, ?_⟩⟩
      exact P U _ H' ((R.same s).set hi (.int _)) (F.grow s)
    | _ => cases e4
  | _ => cases y <;> cases e4
end
/-! ### while -/
def whN (c : DS → Option Bool) (b : DS → Option Res) : Nat → DS → Option Res
  | 0, _ => none
  | n + 1, δ => (c δ).bind fun x => if x = true then (b δ).bind (fun | .nx δ' => whN c b n δ' | .ct δ' => whN c b n δ' | .bk δ' => some (.nx δ') | .rt d => some (.rt d)) else some (.nx δ)
theorem whN_up {c : DS → Option Bool} {b : DS → Option Res} : ∀ {n : Nat} {δ : DS} {r : Res}, whN c b n δ = some r → whN c b (n + 1) δ = some r
  | 0, _, _, h => by cases h
  | n + 1, δ, r, h => by
    rw [whN] at h ⊢
    obtain ⟨x, e1, e2⟩ := bind1 h
    rw [e1, Option.bind_some]
    cases x with
    | false => exact e2
    | true =>
      rw [if_pos rfl] at e2 ⊢
      obtain ⟨q, e3, e4⟩ := bind1 e2
      rw [e3, Option.bind_some]
      cases q with
      | nx δ' => exact whN_up e4
      | ct δ' => exact whN_up e4
      | bk _ => exact e4
      | rt _ => exact e4
theorem whN_le {c : DS → Option Bool} {b : DS → Option Res} {n m : Nat} {δ : DS} {r : Res} (h : whN c b n δ = some r) (hm : n ≤ m) : whN c b m δ = some r := by
  induction hm with
  | refl => exact h
  | step _ ih => exact whN_up ih
open Classical in
noncomputable def gWhile (c : DS → Option Bool) (b : DS → Option Res) : DS → Option Res := fun δ => if h : ∃ p : Nat × Res, whN c b p.1 δ = some p.2 then some (choose h).2 else none
theorem gWhile_some {c : DS → Option Bool} {b : DS → Option Res} {δ : DS} {r : Res} (h : gWhile c b δ = some r) : ∃ n, whN c b n δ = some r := by
  unfold gWhile at h
  split at h
  · rename_i hp
    cases h
    exact ⟨_, Classical.choose_spec hp⟩
  · cases h
theorem gWhile_of {c : DS → Option Bool} {b : DS → Option Res} {n : Nat} {δ : DS} {r : Res} (h : whN c b n δ = some r) : gWhile c b δ = some r := by
  have hp : ∃ p : Nat × Res, whN c b p.1 δ = some p.2 := ⟨(n, r), h⟩
  unfold gWhile
  rw [dif_pos hp]
  have h2 := Classical.choose_spec hp
  have a1 := whN_le h (Nat.le_max_left n (Classical.choose hp).1)
  have a2 := whN_le h2 (Nat.le_max_right n (Classical.choose hp).1)
  rw [a1] at a2
  exact a2.symm
/-- a while by a word with a measure -/
theorem gWhile_by {c : DS → Option Bool} {b : DS → Option Res} (W : Nat → DS → Prop) (r : DS → Res → Prop) (m : Nat) (δ : DS) (h : W m δ)
    (hs : ∀ m δ, W m δ → (c δ = some false ∧ r δ (.nx δ)) ∨ (c δ = some true ∧ ((∃ δ' m', (b δ = some (.nx δ') ∨ b δ = some (.ct δ')) ∧ m' < m ∧ W m' δ' ∧ ∀ q, r δ' q → r δ q) ∨ (∃ δ', b δ = some (.bk δ') ∧ r δ (.nx δ')) ∨ ∃ d, b δ = some (.rt d) ∧ r δ (.rt d)))) :
    ∃ q, gWhile c b δ = some q ∧ r δ q := by
  suffices hh : ∀ k m δ, m < k → W m δ → ∃ n q, whN c b n δ = some q ∧ r δ q by
    obtain ⟨n, q, e, hq⟩ := hh (m + 1) m δ (Nat.lt_succ_self m) h
    exact ⟨q, gWhile_of e, hq⟩
  intro k
  induction k with
  | zero => intro m δ hm; omega
  | succ k ih =>
    intro m δ hm hW
    rcases hs m δ hW with ⟨hc, hr⟩ | ⟨hc, ⟨δ', m', hb, hlt, hW', imp⟩ | ⟨δ', hb, hr⟩ | ⟨d, hb, hr⟩⟩
    · exact ⟨1, _, by rw [whN, hc]; rfl, hr⟩
    · obtain ⟨n, q, e, hq⟩ := ih m' δ' (by omega) hW'
      refine ⟨n + 1, q, ?_, imp q hq⟩
      rw [whN, hc, Option.bind_some, if_pos rfl]
      rcases hb with hb | hb <;> rw [hb, Option.bind_some] <;> exact e
    · exact ⟨1, _, by rw [whN, hc, Option.bind_some, if_pos rfl, hb]; rfl, hr⟩
    · exact ⟨1, _, by rw [whN, hc, Option.bind_some, if_pos rfl, hb]; rfl, hr⟩
section
variable {X : Cx} {O : List Nat} {fr : Bool} {body : List Stmt} {gb : DS → Option Res} {gc : DS → Option Bool} {c : Expr} {pos : Pos}
theorem pd_while (hp : PassesOwn (model X.prog X.w) X.A X.env X.xe) (hc : PT X c (tT X.K O gc)) (hb : PSs X body (tS X.K O fr gb)) : PS X (.While c body [] pos) (tS X.K O fr (gWhile gc gb)) := (ps_while hp hc hb).mono fun E σ H ⟨H0, U, A0, δ, r, R, F, ed, P⟩ => by
  obtain ⟨n, en⟩ := gWhile_some ed
  refine ⟨fun m σ H => ∃ U δ, Rel X.K O U A0 σ δ H ∧ Fx H0 A0 U H ∧ whN gc gb m δ = some r, ⟨n, U, δ, R, F, en⟩, ?_⟩
  rintro m σ H ⟨U, δ, R, F, em⟩
  cases m with
  | zero => cases em
  | succ m =>
    rw [whN] at em
    obtain ⟨x, e1, e2⟩ := bind1 em
    refine ⟨U, A0, δ, x, R, e1, fun H' s => ?_⟩
    cases x with
    | false => rw [if_neg Bool.false_ne_true] at e2 ⊢; cases e2; exact P U σ H' (R.same s) (F.grow s)
    | true =>
      rw [if_pos rfl] at e2 ⊢
      obtain ⟨q, e3, e4⟩ := bind1 e2
      refine ⟨fun σ' H' => ∃ m', m' < m + 1 ∧ ∃ U δ, Rel X.K O U A0 σ' δ H' ∧ Fx H0 A0 U H' ∧ whN gc gb m' δ = some r, fun _ _ h => h, H0, U, A0, δ, q, R.same s, F.grow s, e3, ?_⟩
      cases q with
      | nx δ' => exact fun U' σ' H' R' F' => ⟨m, Nat.lt_succ_self m, U', δ', R', F', e4⟩
      | ct δ' => exact fun U' σ' H' R' F' => ⟨m, Nat.lt_succ_self m, U', δ', R', F', e4⟩
      | bk δ' => cases e4; exact P
      | rt d => cases e4; exact P
end
/-! ### targets -/
def gName' (i : Nat) : D → DS → Option DS := fun d δ => some (δ.set i (some d))
def gTupT (n : Nat) (g : List D → DS → Option DS) : D → DS → Option DS := fun d δ => match d with
  | .tuple ds => if ds.length = n then g ds δ else none
  | _ => none
def gNilT : List D → DS → Option DS := fun ds δ => if ds = [] then some δ else none
def gConsT (t : D → DS → Option DS) (u : List D → DS → Option DS) : List D → DS → Option DS := fun ds δ => match ds with
  | d :: r => (t d δ).bind fun δ' => u r δ'
  | [] => none
def tGs (K : PySem.W.Frag) (O : List Nat) (g : List D → DS → Option DS) : TGs := fun vs σ H Q => ∃ U A0 δ ds δ', Rel K O U A0 σ δ H ∧ HDs K (wo H (U ++ A0)) vs ds ∧ g ds δ = some δ' ∧ ∀ σ', Rel K O U A0 σ' δ' H → Q σ' H
section
variable {X : Cx} {O : List Nat} {e : Expr} {es : List Expr} {pos : Pos}
theorem PGs.mono {t t' : TGs} (h : PGs X es t) (m : ∀ v σ H Q, t' v σ H Q → t v σ H Q) : PGs X es t' := fun pins s σ H v u Q I r q => h pins s σ H v u Q I r (m v σ H Q q)
theorem pd_gname {i : Nat} (h : PG X e (gName i)) (hi : i ∉ O := by decide) : PG X e (tG X.K O (gName' i)) := h.mono fun v σ H Q ⟨U, A0, δ, d, δ', R, hd, e1, q⟩ => by
  cases e1
  exact q _ (R.set hi hd)
theorem pd_gnil : PGs X [] (tGs X.K O gNilT) := pgs_nil.mono fun vs σ H Q ⟨U, A0, δ, ds, δ', R, hd, e1, q⟩ => by
  unfold gNilT at e1
  split at e1
  · rename_i hz
    cases e1
    subst hz
    cases hd
    exact ⟨rfl, q σ R⟩
  · cases e1
theorem pd_gcons {t : D → DS → Option DS} {u : List D → DS → Option DS} (h1 : PG X e (tG X.K O t)) (h2 : PGs X es (tGs X.K O u)) (hs : (assignEach (e :: es) X.env).map (·.2) = assign e X.env :: (assignEach es X.env).map (·.2) := by rfl) : PGs X (e :: es) (tGs X.K O (gConsT t u)) :=
  (pgs_cons h1 h2 hs).mono fun vs σ H Q ⟨U, A0, δ, ds, δ', R, hd, e1, q⟩ => by
    cases hd with
    | nil => cases e1
    | cons hx hr =>
      obtain ⟨δ1, e2, e3⟩ := bind1 e1
      exact ⟨_, _, rfl, U, A0, δ, _, δ1, R, hx, e2, fun σ1 R1 => ⟨U, A0, δ1, _, δ', R1, hr, e3, q⟩⟩
theorem pd_gtup {n k : Nat} {t : List D → DS → Option DS} (hc : X.calm = true) (h : PGs X es (tGs X.K O t)) (hn : (assignEach es X.env).length = n := by rfl) (hst : (assignEach es X.env).findIdx? (·.1) = none := by rfl) : PG X (.Tuple es k pos) (tG X.K O (gTupT n t)) :=
  (pg_tup hc h hn hst).mono fun v σ H Q ⟨U, A0, δ, d, δ', R, hd, e1, q⟩ => by
    unfold gTupT at e1
    split at e1
    · split at e1
      · rename_i hz
        obtain ⟨a, xs, rfl, h1, h2⟩ := (ShD.of hd).tuple
        exact ⟨a, xs, rfl, h1, by rw [h2.len]; exact hz, U, A0, δ, _, δ', R, h2, e1, q⟩
      · cases e1
    · cases e1
end
/-! ### for -/
def forD (t : D → DS → Option DS) (b : DS → Option Res) : List D → DS → Option Res
  | [], δ => some (.nx δ)
  | d :: ds, δ => (t d δ).bind fun δ1 => (b δ1).bind fun | .nx δ' => forD t b ds δ' | .ct δ' => forD t b ds δ' | .bk δ' => some (.nx δ') | .rt d => some (.rt d)
def gFor (gi : DS → Option (List D)) (t : D → DS → Option DS) (b : DS → Option Res) : DS → Option Res := fun δ => (gi δ).bind fun ds => forD t b ds δ
theorem RetR.trans {K : PySem.W.Frag} {fr : Bool} {H0 H H' : Hp} {A0 U : List Addr} {v : V} {d : D} (F : Fx H0 A0 U H) (h : RetR K fr (wo H U) A0 v d H') : RetR K fr H0 A0 v d H' := by
  have k : ∀ a o, H0 a = some o → wo H U a = some o := fun a o e => by
    rw [wo_out fun z => ?_]
    · exact F.same _ _ e
    · rw [F.new a z] at e; cases e
  unfold RetR at h ⊢
  split
  · rename_i hf
    rw [if_pos hf] at h
    obtain ⟨r, ys, ds, a, b, c, e, f, g⟩ := h
    refine ⟨r, ys, ds, a, b, fun x o q => c _ _ (k x o q), ?_, f, g⟩
    cases q : H0 r with
    | none => rfl
    | some o => rw [k r o q] at e; cases e
  · rename_i hf
    rw [if_neg hf] at h
    exact ⟨fun x o q => h.1 _ _ (k x o q), h.2⟩
section
variable {X : Cx} {O : List Nat} {fr : Bool} {body : List Stmt} {gb : DS → Option Res} {gi : DS → Option (List D)} {tg iter : Expr} {gt : D → DS → Option DS} {pos : Pos}
theorem pd_for (hp : PassesOwn (model X.prog X.w) X.A X.env X.xe) (hc : X.calm = true) (hi : PI X tg iter (tI X.K O gi)) (hg : PG X tg (tG X.K O gt)) (hb : PSs X body (tS X.K O fr gb))
    (hs : ∀ x, foldedSetIterable iter X.env x = pure x := by intro _; rfl) : PS X (.For tg iter body [] pos) (tS X.K O fr (gFor gi gt gb)) := (ps_for hp hc hi hg hb hs).mono fun E σ H ⟨H0, U, A0, δ, r, R, F, ed, P⟩ => by
  obtain ⟨ds, e1, e2⟩ := bind1 ed
  refine ⟨U, A0, δ, ds, R, e1, fun J H1 s hw => ?_⟩
  have F1 := F.grow s
  refine ⟨fun i m σ H => m = ds.length - i ∧ i ≤ ds.length ∧ ∃ U2 δ, Rel X.K O U2 A0 σ δ H ∧ Fx H0 A0 U2 H ∧ Fx (wo H1 U) A0 U2 H ∧ forD gt gb (ds.drop i) δ = some r, ⟨ds.length, by simp, Nat.zero_le _, U, δ, R.same s, F1, F1.here, by simpa using e2⟩, ?_⟩
  rintro i m σ H ⟨rfl, hle, U2, δ, R2, F2, G2, ef⟩
  obtain ⟨hgo, hstop⟩ := hw (U2 ++ A0) i H G2.keeps R2.al
  by_cases hlt : i < ds.length
  · obtain ⟨d, hd⟩ : ∃ d, ds[i]? = some d := ⟨_, List.getElem?_eq_getElem hlt⟩
    have hdrop : ds.drop i = d :: ds.drop (i + 1) := by
      rw [List.drop_eq_getElem_cons hlt]
      rw [List.getElem?_eq_getElem hlt] at hd
      cases hd; rfl
    obtain ⟨go, hy⟩ := hgo d hd
    rw [hdrop, forD] at ef
    obtain ⟨δ1, e3, e4⟩ := bind1 ef
    obtain ⟨q, e5, e6⟩ := bind1 e4
    refine .inr ⟨go, fun σ' H' => ∃ m', m' < ds.length - i ∧ (m' = ds.length - (i + 1) ∧ i + 1 ≤ ds.length ∧ ∃ U2 δ, Rel X.K O U2 A0 σ' δ H' ∧ Fx H0 A0 U2 H' ∧ Fx (wo H1 U) A0 U2 H' ∧ forD gt gb (ds.drop (i + 1)) δ = some r), fun _ _ h => h, fun x H2 y => ?_⟩
    obtain ⟨s2, hx⟩ := hy x H2 y
    refine ⟨U2, A0, δ, d, δ1, R2.same s2, hx, e3, fun σ' R' => ?_⟩
    have F3 := F2.grow s2
    have G3 := G2.grow s2
    refine ⟨wo H2 U2, U2, A0, δ1, q, R', F3.here, e5, ?_⟩
    cases q with
    | nx δ' => exact fun U' σ' H' R' F' => ⟨_, by omega, rfl, hlt, U', δ', R', F3.trans F', G3.trans F', e6⟩
    | ct δ' => exact fun U' σ' H' R' F' => ⟨_, by omega, rfl, hlt, U', δ', R', F3.trans F', G3.trans F', e6⟩
    | bk δ' => cases e6; exact fun U' σ' H' R' F' => P U' σ' H' R' (F3.trans F')
    | rt d => cases e6; exact fun v H' h => P v H' (h.trans F3)
  · have hi : i = ds.length := by omega
    subst hi
    rw [List.drop_length, forD] at ef
    cases ef
    exact .inl ⟨hstop rfl, P U2 σ H R2 F2⟩
end
/-! ### what is walked -/
def rangeD (lo : Int) (n : Nat) : List D := (List.range n).map fun k : Nat => PyData.int (lo + k)
theorem rangeD_get {lo : Int} {n i : Nat} {d : D} (h : (rangeD lo n)[i]? = some d) : i < n ∧ d = .int (lo + i) := by
  unfold rangeD at h
  rw [List.getElem?_map] at h
  cases e : (List.range n)[i]? with
  | none => rw [e] at h; cases h
  | some k =>
    rw [e] at h; cases h
    have hi := (List.getElem?_eq_some_iff.mp e).1
    rw [List.length_range] at hi
    rw [List.getElem?_range hi] at e
    cases e
    exact ⟨hi, rfl⟩
theorem rangeD_len {lo : Int} {n : Nat} : (rangeD lo n).length = n := by unfold rangeD; simp
theorem walks_range {K : PySem.W.Frag} {A : List Addr} {H1 : Hp} {lo : Int} {n : Nat} : Walks K A H1 (Itr lo n) (rangeD lo n) := by
  intro A' i H _ _
  refine ⟨fun d hd => ?_, fun hi => ?_⟩
  · obtain ⟨hi, rfl⟩ := rangeD_get hd
    refine ⟨hi, fun x H2 y => ?_⟩
    obtain ⟨rfl, rfl⟩ := y
    exact ⟨Same.refl _, .int _⟩
  · rw [rangeD_len] at hi
    subst hi
    exact Nat.le_refl _
def gRange1 (g : DS → Option (List D)) : DS → Option (List D) := fun δ => (g δ).bind fun | [.int j] => if -(2 ^ 62) ≤ j ∧ j < 2 ^ 62 then some (rangeD 0 j.toNat) else none | _ => none
def gRange2 (g : DS → Option (List D)) : DS → Option (List D) := fun δ => (g δ).bind fun | [.int i, .int j] => if -(2 ^ 62) ≤ i ∧ i < 2 ^ 62 ∧ -(2 ^ 62) ≤ j ∧ j < 2 ^ 62 then some (rangeD i (j - i).toNat) else none | _ => none
def gItems (g : DS → Option D) : DS → Option (List D) := fun δ => (g δ).bind fun | .list l => some l | .tuple l => some l | _ => none
section
variable {X : Cx} {O : List Nat} {tg a b e : Expr} {gr : DS → Option (List D)} {ge : DS → Option D} {pos p : Pos}
theorem pd_range1 (hm : X.mg "range" = none) (ha : PA X [a] (tAs X.K O gr)) (hg : Gl X "range" := by rfl) (hs : starEach [a] X.env = [(false, eval a X.env)] := by rfl) : PI X tg (.Call (.Name "range" p) [a] [] pos) (tI X.K O (gRange1 gr)) := (pi_range1 hg hm ha hs).mono fun σ H Q ⟨U, A0, δ, ds, R, ed, q⟩ => by
  obtain ⟨x, e1, e2⟩ := bind1 ed
  refine ⟨U, A0, δ, x, R, e1, fun vs H' s h => ?_⟩
  split at e2
  · split at e2
    · rename_i hz
      cases e2
      cases h with
      | cons h1 h2 =>
        cases h2
        cases h1
        exact ⟨_, rfl, hz.1, hz.2, q _ H' s walks_range⟩
    · cases e2
  · cases e2
theorem pd_range2 (hm : X.mg "range" = none) (ha : PA X [a, b] (tAs X.K O gr)) (hg : Gl X "range" := by rfl) (hs : starEach [a, b] X.env = [(false, eval a X.env), (false, eval b X.env)] := by rfl) (hs2 : starEach [b] X.env = [(false, eval b X.env)] := by rfl) : PI X tg (.Call (.Name "range" p) [a, b] [] pos) (tI X.K O (gRange2 gr)) := (pi_range2 hg hm ha hs hs2).mono fun σ H Q ⟨U, A0, δ, ds, R, ed, q⟩ => by
  obtain ⟨x, e1, e2⟩ := bind1 ed
  refine ⟨U, A0, δ, x, R, e1, fun vs H' s h => ?_⟩
  split at e2
  · split at e2
    · rename_i hz
      cases e2
      cases h with
      | cons h1 h2 => cases h2 with
        | cons h2 h3 =>
          cases h3
          cases h1
          cases h2
          exact ⟨_, _, rfl, hz, q _ H' s walks_range⟩
    · cases e2
  · cases e2
/-- a list or a tuple -/
def iSeq (K : PySem.W.Frag) (tl : TE) : TI := fun σ H R => tl σ H fun x H1 => (∃ a, x = .ref a ∧ (∃ xs, SqL K H1 a xs) ∧ R (Itl K a) H1) ∨ ∃ a, x = .ref a ∧ (∃ xs, SqT K H1 a xs) ∧ R (Itt K a) H1
theorem pi_seq {l : Expr} {tl : TE} (hl : PE X l tl) : PI X tg l (iSeq X.K tl) := by
  intro pins s σ H R I h
  refine thn (hl pins s σ H _ I h) fun v s1 ⟨x, H1, I1, r1, q1⟩ => ?_
  rcases q1 with ⟨a, e, ⟨xs, hq⟩, q⟩ | ⟨a, e, ⟨xs, hq⟩, q⟩
  · subst e
    cases r1
    obtain ⟨its, rv, p, hz⟩ := I1.list hq
    refine wpAny_pyIter_list p.isList ?_
    refine ⟨s1.heap.objs.size, [s1.heap.objs.size], _, _, H1, rfl, I1.kept (t' := s1.toks) fun b o e => Heap.get?_push_of_some _ e, turn_list a _, ⟨_, Heap.get?_push_size _ rfl, rfl, rfl⟩, fun b hb => ?_, q⟩
    have e : b = s1.heap.objs.size := by simpa using hb
    subst e
    exact I1.fpOk (Nat.le_refl _) (I1.hok.fresh (Nat.le_refl _))
  · subst e
    cases r1
    obtain ⟨its, rv, p, hz⟩ := I1.tuple hq
    refine wpAny_pyIter_tuple (show s1.heap.IsTuple a its.toArray from p) ?_
    refine ⟨s1.heap.objs.size, [s1.heap.objs.size], _, _, H1, rfl, I1.kept (t' := s1.toks) fun b o e => Heap.get?_push_of_some _ e, turn_tuple a _, ⟨_, Heap.get?_push_size _ rfl, rfl, rfl⟩, fun b hb => ?_, q⟩
    have e : b = s1.heap.objs.size := by simpa using hb
    subst e
    exact I1.fpOk (Nat.le_refl _) (I1.hok.fresh (Nat.le_refl _))
theorem pd_iseq (h : PE X e (tE X.K O ge)) : PI X tg e (tI X.K O (gItems ge)) := (pi_seq h).mono fun σ H Q ⟨U, A0, δ, ds, R, ed, q⟩ => by
  obtain ⟨x, e1, e2⟩ := bind1 ed
  cases x with
  | list l =>
    cases e2
    refine ⟨U, A0, δ, _, R, e1, fun v H' s h => ?_⟩
    cases h with
    | lst hq h =>
      refine .inl ⟨_, rfl, ⟨_, (hq.same wo_same).sq⟩, q _ H' s ?_⟩
      intro A' i H2 s2 _
      have hq2 := hq.same s2
      have h2 := h.same s2
      have hL : SqL X.K H2 _ _ := (hq2.same wo_same).sq
      refine ⟨fun d hd => ?_, fun hi => ⟨_, hL, by rw [h2.len]; omega⟩⟩
      obtain ⟨x, hx, hxd⟩ := h2.get hd
      refine ⟨⟨_, x, hL, hx⟩, fun y H3 hy => ?_⟩
      obtain ⟨rfl, hy⟩ := hy
      have := hy _ hL
      rw [hx] at this
      cases this
      exact ⟨Same.refl _, hxd⟩
  | tuple l =>
    cases e2
    refine ⟨U, A0, δ, _, R, e1, fun v H' s h => ?_⟩
    cases h with
    | tup hq h =>
      refine .inr ⟨_, rfl, ⟨_, wo_same.tup hq⟩, q _ H' s ?_⟩
      intro A' i H2 s2 _
      have hq2 := s2.tup hq
      have h2 := h.same s2
      have hL : SqT X.K H2 _ _ := wo_same.tup hq2
      refine ⟨fun d hd => ?_, fun hi => ⟨_, hL, by rw [h2.len]; omega⟩⟩
      obtain ⟨x, hx, hxd⟩ := h2.get hd
      refine ⟨⟨_, x, hL, hx⟩, fun y H3 hy => ?_⟩
      obtain ⟨rfl, hy⟩ := hy
      have := hy _ hL
      rw [hx] at this
      cases this
      exact ⟨Same.refl _, hxd⟩
  | _ => cases e2
end
/-! ### comprehensions -/
def captD (ix : List Nat) (δ : DS) : DS := ix.map fun j => (δ[j]?).join
def mapD (f : D → Option D) : List D → Option (List D)
  | [] => some []
  | d :: ds => (f d).bind fun x => (mapD f ds).bind fun xs => some (x :: xs)
def gComp (gi : DS → Option (List D)) (ix : List Nat) (ge : DS → Option D) : DS → Option (List D) := fun δ => (gi δ).bind fun ds => if ds.length ≤ 100000 then mapD (fun d => ge (some d :: captD ix δ)) ds else none
theorem mapD_snoc {f : D → Option D} : ∀ {ds : List D} {xs : List D} {i : Nat} {d : D}, mapD f ds = some xs → ds[i]? = some d → ∃ x, f d = some x ∧ xs[i]? = some x
  | [], _, _, _, _, e => by simp at e
  | c :: ds, xs, i, d, h, e => by
    rw [mapD] at h
    obtain ⟨x, e1, e2⟩ := bind1 h
    obtain ⟨r, e3, e4⟩ := bind1 e2
    cases e4
    cases i with
    | zero => simp at e; subst e; exact ⟨x, e1, rfl⟩
    | succ i =>
      obtain ⟨y, h1, h2⟩ := mapD_snoc (i := i) e3 (by simpa using e)
      exact ⟨y, h1, by simpa using h2⟩
theorem mapD_len {f : D → Option D} : ∀ {ds : List D} {xs : List D}, mapD f ds = some xs → xs.length = ds.length
  | [], _, h => by cases h; rfl
  | c :: ds, xs, h => by
    rw [mapD] at h
    obtain ⟨x, e1, e2⟩ := bind1 h
    obtain ⟨r, e3, e4⟩ := bind1 e2
    cases e4
    rw [List.length_cons, List.length_cons, mapD_len e3]
theorem Rel.capt {K : PySem.W.Frag} {O : List Nat} {U A0 : List Addr} {σ : St} {δ : DS} {H : Hp} (R : Rel K O U A0 σ δ H) {ix : List Nat} (hix : ∀ j ∈ ix, j ∉ O) {v : V} {d : D} (h : HD K (wo H (U ++ A0)) v d) :
    Rel K [] U A0 (some v :: L2.capt ix σ) (some d :: captD ix δ) H where
  len := by simp [L2.capt, captD]
  fz := fun i e _ q => by
    cases i with
    | zero => simp at q; subst q; exact ⟨v, rfl, h⟩
    | succ i =>
      rw [List.getElem?_cons_succ] at q ⊢
      unfold captD at q
      unfold L2.capt
      rw [List.getElem?_map] at q ⊢
      cases ei : ix[i]? with
      | none => rw [ei] at q; cases q
      | some j =>
        rw [ei] at q
        simp only [Option.map_some, Option.some.injEq] at q
        obtain ⟨u, hu, hd⟩ := R.fz j e (hix j (List.mem_of_getElem? ei)) (join_some q)
        exact ⟨u, by simp [hu], hd⟩
  ow := fun i e hi => by simp at hi
  inj := fun i j d e l hi => by simp at hi
  al := R.al
theorem cBlock_D {K : PySem.W.Frag} {O : List Nat} {U A0 : List Addr} {σ : St} {δ : DS} {H H1 : Hp} {J : It} {ix : List Nat} {ge : DS → Option D} {ds xs : List D} {Q : VK} (R : Rel K O U A0 σ δ H) (s : Same H H1) (hix : ∀ j ∈ ix, j ∉ O) (hw : Walks K (U ++ A0) H1 J ds)
    (hl : ds.length ≤ 100000) (e : mapD (fun d => ge (some d :: captD ix δ)) ds = some xs) (q : ∀ r ys H', Same H H' → H r = none → H' r = some (.lst ys) → HDs K (wo H' (r :: (U ++ A0))) ys xs → Q (.ref r) H') : cBlock J ix (tE K [] ge) σ H1 Q := by
  have hxl := mapD_len e
  have big : (100000 : Nat) < sizeLine := by decide
  refine ⟨fun i m ys H2 => m = ds.length - i ∧ i ≤ ds.length ∧ Same H1 H2 ∧ ys.length = i ∧ HDs K (wo H2 (U ++ A0)) ys (xs.take i), ⟨ds.length, by simp, Nat.zero_le _, Same.refl _, rfl, .nil⟩, ?_⟩
  rintro i m ys H2 ⟨rfl, hle, s2, hyl, hy⟩
  refine ⟨by omega, ?_⟩
  obtain ⟨hgo, hstop⟩ := hw (U ++ A0) i H2 (wo_mono s2) (R.same (s.trans s2)).al
  by_cases hlt : i < ds.length
  · obtain ⟨d, hd⟩ : ∃ d, ds[i]? = some d := ⟨_, List.getElem?_eq_getElem hlt⟩
    obtain ⟨go, hyd⟩ := hgo d hd
    obtain ⟨x, e1, e2⟩ := mapD_snoc e hd
    refine .inr ⟨go, by omega, fun y H3 => ∃ m', m' < ds.length - i ∧ (m' = ds.length - (i + 1) ∧ i + 1 ≤ ds.length ∧ Same H1 H3 ∧ (ys ++ [y]).length = i + 1 ∧ HDs K (wo H3 (U ++ A0)) (ys ++ [y]) (xs.take (i + 1))), fun _ _ h => h, fun v H3 y => ?_⟩
    obtain ⟨s3, hv⟩ := hyd v H3 y
    have R3 := (R.same (s.trans (s2.trans s3))).capt hix hv
    refine ⟨U, A0, _, x, R3, e1, fun u H4 s4 hu => ⟨_, by omega, rfl, hlt, (s2.trans s3).trans s4, by simp [hyl], ?_⟩⟩
    have ht : xs.take (i + 1) = xs.take i ++ [x] := by
      rw [List.take_succ, e2]; rfl
    rw [ht]
    exact (hy.same (wo_mono (s3.trans s4))).app (.cons hu .nil)
  · have hi : i = ds.length := by omega
    subst hi
    refine .inl ⟨hstop rfl, fun p hp => ?_⟩
    rw [List.take_of_length_le (by omega)] at hy
    exact new_q (s.trans s2) q p ys hp hy
section
variable {X : Cx} {O : List Nat} {fr : Bool} {scope : Scope} {x : Str} {elt iter : Expr} {px pos : Pos} {gi : DS → Option (List D)} {ge : DS → Option D}
theorem tComp_N {K : PySem.W.Frag} {ix : List Nat} (hix : ∀ j ∈ ix, j ∉ O) {σ : St} {H : Hp} {Q : VK} : tN K O (gComp gi ix ge) σ H Q → tComp (tI K O gi) ix (tE K [] ge) σ H Q := fun ⟨U, A0, δ, xs, R, ed, q⟩ => by
  obtain ⟨ds, e1, e2⟩ := bind1 ed
  split at e2
  · rename_i hl
    exact ⟨U, A0, δ, ds, R, e1, fun J H1 s hw => cBlock_D R s hix hw hl e2 q⟩
  · cases e2
theorem pd_comp (sc : Scope) (N : List Str) (ix : List Nat) (N' : List Str) (hi : PI X (.Name x px) iter (tI X.K O gi)) (helt : ∀ cl C s2 H2 fp pins, PE (compCx X scope N' cl C s2 H2 fp pins) elt (tE X.K [] ge)) (hix : ∀ j ∈ ix, j ∉ O := by decide) (hk : compChk sc scope N x ix N' = true := by decide +kernel) (hN : N'.Nodup := by decide +kernel)
    (e1 : X.env.scope = sc := by rfl) (e2 : X.N = N := by rfl) (hc : X.calm = true := by rfl) (hs : ∀ x, foldedSetIterable iter X.env x = pure x := by intro _; rfl) : PE X (.ListComp elt [⟨.Name x px, iter, [], 0⟩] scope pos) (tN X.K O (gComp gi ix ge)) :=
  (pe_comp sc N ix N' hi helt hk hN e1 e2 hc hs).mono fun _ _ _ => tComp_N hix
theorem pd_setC {i : Nat} {y : Str} {py spos : Pos} (sc : Scope) (N : List Str) (ix : List Nat) (N' : List Str) (hN0 : X.N.Nodup) (hi0 : X.N[i]? = some y) (hy : X.env.scope.names.lookup y = some .local) (hi : PI X (.Name x px) iter (tI X.K O gi)) (helt : ∀ cl C s2 H2 fp pins, PE (compCx X scope N' cl C s2 H2 fp pins) elt (tE X.K [] ge)) (hix : ∀ j ∈ ix, j ∉ O := by decide) (hk : compChk sc scope N x ix N' = true := by decide +kernel) (hN : N'.Nodup := by decide +kernel)
    (e1 : X.env.scope = sc := by rfl) (e2 : X.N = N := by rfl) (hc : X.calm = true := by rfl) (hs : ∀ x, foldedSetIterable iter X.env x = pure x := by intro _; rfl) (hsw : swapsWith (.ListComp elt [⟨.Name x px, iter, [], 0⟩] scope pos) (some (.Name y py)) spos.line X.env = pure true := by rfl) :
    PS X (.Assign [.Name y py] (.ListComp elt [⟨.Name x px, iter, [], 0⟩] scope pos) spos) (tAsg (tN X.K O (gComp gi ix ge)) (gName i)) :=
  (ps_setC sc N ix N' hN0 hi0 hy hi helt hk hN e1 e2 hc hs hsw).mono fun _ _ _ h => tComp_N hix h
/-- a statement that stores a new list, where the slot is not one's own -/
theorem PS.nE {st : Stmt} {i : Nat} {g : DS → Option (List D)} (h : PS X st (tAsg (tN X.K O g) (gName i))) : PS X st (tAsg (tE X.K O (gLst g)) (gName i)) := h.mono fun _ _ _ h => tN_tE h
end
/-! ### defs -/
def gOut : Res → Option D
  | .rt d => some d
  | .nx _ => some .none
  | _ => none
def gOutN : Res → Option (List D)
  | .rt (.list l) => some l
  | _ => none
def gDef (n : Nat) (g : DS → Option Res) : List D → Option D := fun ds => (g (ds.map some ++ List.replicate (n - ds.length) none)).bind gOut
def gDefN (n : Nat) (g : DS → Option Res) : List D → Option (List D) := fun ds => (g (ds.map some ++ List.replicate (n - ds.length) none)).bind gOutN
theorem Rel.start {K : PySem.W.Frag} {O : List Nat} {A : List Addr} {N : List Str} {vs : List V} {ds : List D} {H : Hp} (al : Ls A H) (h : HDs K (wo H A) vs ds) (hO : ∀ i ∈ O, ds.length ≤ i) : Rel K O [] A (start N vs) (ds.map some ++ List.replicate (N.length - ds.length) none) H := by
  have hl := h.len
  have none_of : ∀ (i : Nat) d, ds.length ≤ i → (ds.map some ++ List.replicate (N.length - ds.length) none)[i]? = some (some d) → False := by
    intro i d hi q
    rw [List.getElem?_append_right (by simpa using hi)] at q
    have := List.mem_of_getElem? q
    rw [List.mem_replicate] at this
    exact absurd this.2 (by simp)
  exact {
    len := by unfold L2.start; simp [hl]
    fz := fun i d _ q => by
      by_cases hi : i < ds.length
      · rw [List.getElem?_append_left (by simpa using hi), List.getElem?_map, List.getElem?_eq_getElem hi] at q
        simp only [Option.map_some, Option.some.injEq] at q
        obtain ⟨v, e, hv⟩ := h.get (List.getElem?_eq_getElem hi)
        refine ⟨v, ?_, ?_⟩
        · unfold L2.start
          rw [List.getElem?_append_left (by rw [List.length_map]; omega), List.getElem?_map, e]; rfl
        · rw [List.nil_append, ← q]; exact hv
      · exact (none_of i d (by omega) q).elim
    ow := fun i d hi q => (none_of i d (hO i hi) q).elim
    inj := fun i j d e l hi _ _ q => (none_of i d (hO i hi) q).elim
    al := al }
theorem Fx.start {A : List Addr} {H : Hp} (al : Ls A H) : Fx H A [] H := ⟨Same.refl H, fun _ h => by simp at h, al⟩
section
variable {P : Program} {w : World} {K : PySem.W.Frag} {mg : Str → Option Value} {base : Heap} {x : Str} {st : Stmt} {N ps : List Str} {k : Nat}
theorem pd_def (O : List Nat) (g : DS → Option Res) (F : Df K mg x st ps) (S : FnScope N ps (defScope st))
    (body : ∀ (f : Addr) (cdv : Value) (A : Around) (outer : List Env) (s : Shared) (H : Hp) (E : XK), Room k (A.deeper (envOfC x (defScope st) s.heap.objs.size f cdv)) → PSs (cxOf CX0 P w K mg base N x (defScope st) f cdv A outer s H E).nox (defBody st) (tS K O false g))
    (hO : ∀ i ∈ O, ps.length ≤ i := by decide) {n m : Nat} (hN : N.length = n := by rfl) (hP : ps.length = m := by rfl) : Dn P w K mg base (k + 1) x ps (spD K m (gDef n g)) := by
  subst hN hP
  refine F.ok S (fun vs H Q E h => h.1) (fun f cdv A outer s H vs Q E hr h => ⟨_, body f cdv A outer s H E hr, ?_⟩)
  obtain ⟨hn, A', ds, d, al, hd, e, q⟩ := h
  obtain ⟨r, e1, e2⟩ := bind1 e
  refine ⟨H, [], A', _, r, Rel.start al hd (fun i hi => by have := hO i hi; rw [← hd.len, hn]; exact this), Fx.start al, e1, ?_⟩
  cases r with
  | nx δ => cases e2; exact fun U σ H' R F' => q .non H' F'.same .non
  | rt d => cases e2; exact fun v H' h => by unfold RetR at h; rw [if_neg Bool.false_ne_true] at h; exact q v H' h.1 h.2
  | bk _ => cases e2
  | ct _ => cases e2
theorem pd_fn {f : Addr} {fd : FuncData} (O : List Nat) (g : DS → Option Res) (F : Fun K x x st f fd) (S : FnScope N ps (defScope st))
    (body : ∀ (f : Addr) (cdv : Value) (A : Around) (outer : List Env) (s : Shared) (H : Hp) (E : XK), Room k (A.deeper (envOfC x (defScope st) s.heap.objs.size f cdv)) → PSs (cxOf CX0 P w K mg base N x (defScope st) f cdv A outer s H E).nox (defBody st) (tS K O false g))
    (hO : ∀ i ∈ O, ps.length ≤ i := by decide) {n m : Nat} (hN : N.length = n := by rfl) (hP : ps.length = m := by rfl) : FnOk P w K mg base CX0 (k + 1) f fd ps (spD K m (gDef n g)) := by
  subst hN hP
  refine F.ok S (fun vs H Q E h => h.1) (fun cdv A outer s H vs Q E hr h => ⟨_, body f cdv A outer s H E hr, ?_⟩)
  obtain ⟨hn, A', ds, d, al, hd, e, q⟩ := h
  obtain ⟨r, e1, e2⟩ := bind1 e
  refine ⟨H, [], A', _, r, Rel.start al hd (fun i hi => by have := hO i hi; rw [← hd.len, hn]; exact this), Fx.start al, e1, ?_⟩
  cases r with
  | nx δ => cases e2; exact fun U σ H' R F' => q .non H' F'.same .non
  | rt d => cases e2; exact fun v H' h => by unfold RetR at h; rw [if_neg Bool.false_ne_true] at h; exact q v H' h.1 h.2
  | bk _ => cases e2
  | ct _ => cases e2
theorem pd_defN (O : List Nat) (g : DS → Option Res) (F : Df K mg x st ps) (S : FnScope N ps (defScope st))
    (body : ∀ (f : Addr) (cdv : Value) (A : Around) (outer : List Env) (s : Shared) (H : Hp) (E : XK), Room k (A.deeper (envOfC x (defScope st) s.heap.objs.size f cdv)) → PSs (cxOf CX0 P w K mg base N x (defScope st) f cdv A outer s H E).nox (defBody st) (tS K O true g))
    (hO : ∀ i ∈ O, ps.length ≤ i := by decide) {n m : Nat} (hN : N.length = n := by rfl) (hP : ps.length = m := by rfl) : Dn P w K mg base (k + 1) x ps (spN K m (gDefN n g)) := by
  subst hN hP
  refine F.ok S (fun vs H Q E h => h.1) (fun f cdv A outer s H vs Q E hr h => ⟨_, body f cdv A outer s H E hr, ?_⟩)
  obtain ⟨hn, A', ds, d, al, hd, e, q⟩ := h
  obtain ⟨r, e1, e2⟩ := bind1 e
  refine ⟨H, [], A', _, r, Rel.start al hd (fun i hi => by have := hO i hi; rw [← hd.len, hn]; exact this), Fx.start al, e1, ?_⟩
  cases r with
  | rt d' =>
    intro v H' h
    unfold RetR at h
    rw [if_pos rfl] at h
    obtain ⟨r, ys, ds', rfl, rfl, a, b, c, f⟩ := h
    cases e2
    exact q r ys H' a b c f
  | nx δ => cases e2
  | bk _ => cases e2
  | ct _ => cases e2
end
end L2

/-! MY OWN: more rules of the pure reading -/
namespace L2
open PySem PySem.Spec PyProof.Rows
/-! ### a op b op c -/
def gChain (f f' : D → D → Option D) (a b c : DS → Option D) : DS → Option D := fun δ => (a δ).bind fun x => (b δ).bind fun y => (f x y).bind fun z => match z with
  | .bool true => (c δ).bind fun w => f' y w
  | .bool false => some (.bool false)
  | _ => none
section
variable {X : Cx} {O : List Nat} {a b c : Expr} {ga gb gc : DS → Option D} {pos : Pos} {r r' : R2}
theorem tChain_E {K : PySem.W.Frag} {f f' : D → D → Option D} (imp : Imp2 K r f) (imp' : Imp2 K r' f') {σ : St} {H : Hp} {Q : VK} : tE K O (gChain f f' ga gb gc) σ H Q → tChain r r' (tSh K O ga) (tSh K O gb) (tSh K O gc) σ H Q := fun ⟨U, A0, δ, d, R, ed, q⟩ => by
  obtain ⟨x, e1, ed⟩ := bind1 ed
  obtain ⟨y, e2, ed⟩ := bind1 ed
  obtain ⟨z, e3, ed⟩ := bind1 ed
  refine ⟨U, A0, δ, x, R, e1, fun v1 H1 s1 h1 => ⟨U, A0, δ, y, R.same s1, e2, fun v2 H2 s2 h2 => imp _ H2 v1 v2 x y z _ (R.same (s1.trans s2)).al (h1.same s2) h2 e3 fun v3 H3 s3 h3 => ?_⟩⟩
  cases z with
  | bool k =>
    cases h3
    refine ⟨k, rfl, ?_⟩
    cases k with
    | true =>
      obtain ⟨w, e4, e5⟩ := bind1 ed
      first
        | rw [if_pos rfl]
        | skip
      exact ⟨U, A0, δ, w, R.same ((s1.trans s2).trans s3), e4, fun v4 H4 s4 h4 => imp' _ H4 v2 v4 y w d Q (R.same (((s1.trans s2).trans s3).trans s4)).al (h2.same (s3.trans s4)) h4 e5 fun v H' s h => q v H' ((((s1.trans s2).trans s3).trans s4).trans s) h⟩
    | false =>
      cases ed
      first
        | rw [if_neg Bool.false_ne_true]
        | skip
      exact q _ H3 ((s1.trans s2).trans s3) (.bl _)
  | _ => cases ed
theorem pd_chain {op op' : CmpOp} {f f' : D → D → Option D} (ho : OpR X (compareOp op) r) (imp : Imp2 X.K r f) (ho' : OpR X (compareOp op') r') (imp' : Imp2 X.K r' f') (ha : PE X a (tSh X.K O ga)) (hb : PE X b (tSh X.K O gb)) (hc : PE X c (tSh X.K O gc)) (hm : lastMarks [op, op'] [b, c] = false := by with_unfolding_all rfl) : PE X (.Compare a [op, op'] [b, c] pos) (tE X.K O (gChain f f' ga gb gc)) := (pe_chain ho ho' ha hb hc hm).mono fun _ _ _ => tChain_E imp imp'
theorem pd_tchain {op op' : CmpOp} {f f' : D → D → Option D} (ho : OpR X (compareOp op) r) (imp : Imp2 X.K r f) (ho' : OpR X (compareOp op') r') (imp' : Imp2 X.K r' f') (ha : PE X a (tSh X.K O ga)) (hb : PE X b (tSh X.K O gb)) (hc : PE X c (tSh X.K O gc)) (hm : lastMarks [op, op'] [b, c] = false := by with_unfolding_all rfl) : PT X (.Compare a [op, op'] [b, c] pos) (tT X.K O (gB (gChain f f' ga gb gc))) := (pt_chain ho ho' ha hb hc hm).mono fun _ _ _ => tT_of fun _ _ _ => tChain_E imp imp'
end
/-! ### a, b = x, y -/
def gPar (i j : Nat) (g : DS → Option (List D)) : DS → Option Res := fun δ => (g δ).bind fun | [x, y] => some (.nx ((δ.set i (some x)).set j (some y))) | _ => none
section
variable {X : Cx} {O : List Nat} {fr : Bool} {st : Stmt} {gr : DS → Option (List D)} {i j : Nat}
theorem pd_par (h : PS X st (tPar i j (tAs X.K O gr))) (hi : i ∉ O := by decide) (hj : j ∉ O := by decide) : PS X st (tS X.K O fr (gPar i j gr)) := h.mono fun E σ H ⟨H0, U, A0, δ, r, R, F, ed, P⟩ => by
  obtain ⟨ds, e1, e2⟩ := bind1 ed
  split at e2
  · cases e2
    refine ⟨U, A0, δ, _, R, e1, fun vs H' s hv => ?_⟩
    cases hv with
    | cons h1 h2 => cases h2 with
      | cons h2 h3 =>
        cases h3
        exact ⟨_, _, rfl, P U _ H' (((R.same s).set hi h1).set hj h2) (F.grow s)⟩
  · cases e2
end
/-! ### n.bit_length() -/
def dBits : D → Option D
  | .int i => some (.int (Builtin.Int.intBits i : Nat))
  | _ => none
theorem pd_bits {X : Cx} {O : List Nat} {o : Expr} {ga : DS → Option D} {apos cpos : Pos} (ho : PE X o (tSh X.K O ga)) (hbase : attributeBase o "bit_length" X.env (eval o X.env) = eval o X.env := by rfl) (hline : (apos.endLine == cpos.line) = true := by rfl) :
    PE X (.Call (.Attribute o "bit_length" apos) [] [] cpos) (tE X.K O (g1 dBits ga)) := (pe_bits ho hbase hline).mono fun σ H Q ⟨U, A0, δ, d, R, ed, q⟩ => by
  obtain ⟨x, e1, e2⟩ := bind1 ed
  cases x with
  | int i =>
    cases e2
    refine ⟨U, A0, δ, _, R, e1, fun v H' s h => ?_⟩
    rw [h.int]
    exact ⟨rfl, i, rfl, rfl, q _ H' s (.int _)⟩
  | _ => cases e2
noncomputable abbrev dShr : D → D → Option D := dIc (fun _ j => 0 ≤ j) fun i j => .int (i / 2 ^ j.toNat)
/-! ### x in a row of flat things -/
def flatD : D → Bool
  | .none | .bool _ | .int _ | .str _ => true
  | _ => false
def dV : D → V
  | .none => .non
  | .bool b => .bl b
  | .int i => .int i
  | .str x => .str x
  | _ => .non
def eqD (a b : D) : Bool := eqV (dV a) (dV b)
def dIn : D → D → Option D := fun x y => match y with
  | .list l => if (flatD x && l.all flatD) = true then some (.bool (l.any fun z => eqD z x)) else none
  | .tuple l => if (flatD x && l.all flatD) = true then some (.bool (l.any fun z => eqD z x)) else none
  | _ => none
def dNotIn : D → D → Option D := fun x y => (dIn x y).bind fun | .bool c => some (.bool (!c)) | _ => none
theorem ShD.flat {K : PySem.W.Frag} {A : List Addr} {H : Hp} {v : V} {d : D} (h : ShD K A H v d) (f : flatD d = true) : v = dV d ∧ flatV v = true := by
  cases d with
  | none => rw [h.non]; exact ⟨rfl, rfl⟩
  | bool b => rw [h.bool]; exact ⟨rfl, rfl⟩
  | int i => rw [h.int]; exact ⟨rfl, rfl⟩
  | str x => rw [h.str]; exact ⟨rfl, rfl⟩
  | _ => cases f
theorem HDs.flat {K : PySem.W.Frag} {H : Hp} : ∀ {xs : List V} {ds : List D}, HDs K H xs ds → ds.all flatD = true → xs = ds.map dV ∧ xs.all flatV = true
  | _, _, .nil, _ => ⟨rfl, rfl⟩
  | _, _, .cons h t, f => by
    rw [List.all_cons, Bool.and_eq_true] at f
    obtain ⟨e1, e2⟩ := HDs.flat t f.2
    obtain ⟨e3, e4⟩ := (ShD.of (A := []) (by rw [wo_nil]; exact h)).flat f.1
    exact ⟨by rw [List.map_cons, ← e1, ← e3], by rw [List.all_cons, e4, e2]; rfl⟩
theorem inV_D (x : D) (l : List D) : inV (dV x) (l.map dV) = l.any fun z => eqD z x := by
  unfold inV eqD
  rw [List.any_map]; rfl
section
variable {X : Cx}
theorem op_inH : OpR X (compareOp .In) (rIn X.K false) := op_in_seq
theorem op_notInH : OpR X (compareOp .NotIn) (rIn X.K true) := op_notIn_seq
end
theorem in_core {K : PySem.W.Frag} {A : List Addr} {H : Hp} {x y : V} {dx dy d : D} (hx : ShD K A H x dx) (hy : ShD K A H y dy) (e : dIn dx dy = some d) : ∃ p xs b, y = .ref p ∧ (SqL K H p xs ∨ SqT K H p xs) ∧ flatV x = true ∧ xs.all flatV = true ∧ d = .bool b ∧ inV x xs = b := by
  unfold dIn at e
  split at e
  · split at e
    · rename_i hf
      rw [Bool.and_eq_true] at hf
      cases e
      obtain ⟨p, xs, rfl, h1, h2⟩ := hy.list
      obtain ⟨e1, e2⟩ := h2.flat hf.2
      obtain ⟨e3, e4⟩ := hx.flat hf.1
      exact ⟨p, xs, _, rfl, .inl h1.sq, e4, e2, rfl, by rw [e1, e3, inV_D]⟩
    · cases e
  · split at e
    · rename_i hf
      rw [Bool.and_eq_true] at hf
      cases e
      obtain ⟨p, xs, rfl, h1, h2⟩ := hy.tuple
      obtain ⟨e1, e2⟩ := h2.flat hf.2
      obtain ⟨e3, e4⟩ := hx.flat hf.1
      exact ⟨p, xs, _, rfl, .inr h1, e4, e2, rfl, by rw [e1, e3, inV_D]⟩
    · cases e
  · cases e
theorem imp_in {K : PySem.W.Frag} : Imp2 K (rIn K false) dIn := by
  intro A H x y dx dy d Q al hx hy e q
  obtain ⟨p, xs, b, h1, h2, h3, h4, rfl, h5⟩ := in_core hx hy e
  refine ⟨p, xs, h1, h2, h3, h4, ?_⟩
  show Q (.bl (inV x xs)) H
  rw [h5]
  exact q _ H (Same.refl H) (.bl _)
theorem imp_notIn {K : PySem.W.Frag} : Imp2 K (rIn K true) dNotIn := by
  intro A H x y dx dy d Q al hx hy e q
  obtain ⟨c, e1, e2⟩ := bind1 e
  obtain ⟨p, xs, b, h1, h2, h3, h4, rfl, h5⟩ := in_core hx hy e1
  cases e2
  refine ⟨p, xs, h1, h2, h3, h4, ?_⟩
  show Q (.bl (!inV x xs)) H
  rw [h5]
  exact q _ H (Same.refl H) (.bl _)
theorem eqD_int (a b : Int) : eqD (.int a) (.int b) = decide (a = b) := by
  simp only [eqD, dV, eqV]
  rw [Bool.beq_eq_decide_eq]
/-! ### one's own lists handed in, a new list back -/
def gCallShN (G : List D → Option (List D)) (n : Nat) (g : DS → Option (List D)) : DS → Option (List D) := fun δ => (g δ).bind fun ds => if ds.length = n then (G ds).bind fun d => if noLs d = true then some d else none else none
theorem pd_callShN {X : Cx} {O : List Nat} {e : Expr} {es : List Expr} {gr : DS → Option (List D)} {pos p : Pos} {n k kk : Nat} {x : Str} {ps : List Str} {G : List D → Option (List D)} (F : Dn X.prog X.w X.K X.mg X.base k x ps (spN X.K n G)) (hr : Room kk X.A) (hk : k ≤ kk) (ha : PA X (e :: es) (tAsh X.K O gr)) (hg : Gl X x := by rfl)
    (hdb : (x == ("__debug__" : Str)) = false := by decide) (he : starEach (e :: es) X.env = (false, eval e X.env) :: starEach es X.env := by rfl) (hpl : (backTo pos (starEach es X.env)).any (·.1) = false := by rfl) :
    PE X (.Call (.Name x p) (e :: es) [] pos) (tN X.K O (gCallShN G n gr)) := (pe_fn F hr hk ha hg hdb he hpl).mono fun σ H Q ⟨U, A0, δ, d, R, ed, q⟩ => by
  obtain ⟨ds, e1, e2⟩ := bind1 ed
  split at e2
  · rename_i hn
    obtain ⟨d', e3, e4⟩ := bind1 e2
    split at e4
    · rename_i hL
      cases e4
      refine ⟨U, A0, δ, ds, R, e1, fun vs H' s h => ?_⟩
      show spN X.K n G (vs ++ []) H' Q E0
      rw [List.append_nil]
      have h' := h.isDs
      refine ⟨by rw [h'.len]; exact hn, [], ds, d, fun _ z => by simp at z, by rw [wo_nil]; exact h', e3, fun r ys H2 s2 h0 h1 h2 => q r ys H2 (s.trans s2) (s.free h0) h1 ?_⟩
      have h3 : HDs X.K H2 ys d := h2.same wo_same
      refine HDs.off (fun a ha => ?_) h3 hL
      rcases List.mem_cons.mp ha with z | z
      · subst z; exact ⟨ys, h1⟩
      · exact (R.same (s.trans s2)).al a z
    · cases e4
  · cases e2
/-! ### one's own list, changed otherwise -/
section
variable {X : Cx} {O : List Nat} {fr : Bool} {st : Stmt} {ge gx : DS → Option D} {gl : DS → Option (List D)} {i : Nat}
def gClear (i : Nat) : DS → Option Res := fun δ => (gVar i δ).bind fun x => match x with
  | .list _ => some (.nx (δ.set i (some (.list []))))
  | _ => none
def gReverse (i : Nat) : DS → Option Res := fun δ => (gVar i δ).bind fun x => match x with
  | .list ds => some (.nx (δ.set i (some (.list ds.reverse))))
  | _ => none
def gExt (i : Nat) (g : DS → Option (List D)) : DS → Option Res := fun δ => (gVar i δ).bind fun x => (g δ).bind fun zs => match x with
  | .list ds => if ds.length + zs.length ≤ 100000 then some (.nx (δ.set i (some (.list (ds ++ zs))))) else none
  | _ => none
theorem pd_clear (h : PS X st (tDrop (tBM0 X.K "list" rClear (tVar i)))) (hi : i ∈ O := by decide) : PS X st (tS X.K O fr (gClear i)) := h.mono fun E σ H ⟨H0, U, A0, δ, r, R, F, ed, P⟩ => by
  obtain ⟨x, e1, e2⟩ := bind1 ed
  obtain ⟨l, ys, ds, hl, rfl, hU, h1, h2⟩ := R.ow i x hi (join_some e1)
  cases e2
  refine ⟨.ref l, hl, .inl ⟨rfl, ys, SqL.of h1⟩, l, ys, rfl, rfl, h1, ?_⟩
  exact P U σ _ (R.put hi hl hU .nil ⟨_, join_some e1⟩) (F.put hU _)
theorem pd_reverse (h : PS X st (tDrop (tBM0 X.K "list" rReverse (tVar i)))) (hi : i ∈ O := by decide) : PS X st (tS X.K O fr (gReverse i)) := h.mono fun E σ H ⟨H0, U, A0, δ, r, R, F, ed, P⟩ => by
  obtain ⟨x, e1, e2⟩ := bind1 ed
  obtain ⟨l, ys, ds, hl, rfl, hU, h1, h2⟩ := R.ow i x hi (join_some e1)
  cases e2
  refine ⟨.ref l, hl, .inl ⟨rfl, ys, SqL.of h1⟩, l, ys, rfl, rfl, h1, ?_⟩
  exact P U σ _ (R.put hi hl hU h2.rev ⟨_, join_some e1⟩) (F.put hU _)
theorem pd_extend (h : PS X st (tDrop (tBM X.K "list" rExtend (tVar i) (tCons (tN X.K O gl) tNil)))) (hi : i ∈ O := by decide) : PS X st (tS X.K O fr (gExt i gl)) := h.mono fun E σ H ⟨H0, U, A0, δ, r, R, F, ed, P⟩ => by
  obtain ⟨x, e1, e2⟩ := bind1 ed
  obtain ⟨zs, e3, e4⟩ := bind1 e2
  obtain ⟨l, ys, ds, hl, rfl, hU, h1, h2⟩ := R.ow i x hi (join_some e1)
  simp only at e4
  split at e4
  · rename_i hz
    cases e4
    refine ⟨.ref l, hl, .inl ⟨rfl, ys, SqL.of h1⟩, U, A0, δ, zs, R, e3, fun p ws H' s hp hp1 hp2 => ?_⟩
    have h1' := s _ _ h1
    have h2' := h2.same (wo_mono (A := U ++ A0) s)
    have hp3 := hp2.same (wo_sub (A' := U ++ A0) fun a ha => List.mem_cons_of_mem _ ha)
    have hlen := h2.len
    have hlen2 := hp2.len
    refine ⟨l, p, ys, ws, rfl, rfl, h1', hp1, small (by omega), ?_⟩
    exact P U σ _ ((R.same s).put hi hl hU (h2'.app hp3) ⟨_, join_some e1⟩) ((F.grow s).put hU _)
  · cases e4
end
end L2

/-! MY OWN: more that may be walked -/
namespace L2
open PySem PySem.Spec PyProof.Rows
/-- the list at a from behind -/
def Itv (K : PySem.W.Frag) (a : Addr) (xs : List V) : It := ⟨fun i H => SqL K H a xs ∧ i < xs.length, fun i H x H' => H' = H ∧ xs[xs.length - 1 - i]? = some x, fun i _ => xs.length ≤ i⟩
theorem turn_rev {P : Program} {w : World} {K : PySem.W.Frag} {tg : Expr} (a it : Addr) (xs : List V) : Turn P w K tg (Itv K a xs) [it] it (fun i h => i ≤ xs.length ∧ h.IsRevIter it a ((xs.length : Int) - 1 - (i : Int))) where
  mem := by simp
  obj := fun i h st b hb => by
    have e : b = it := by simpa using hb
    subst e
    obtain ⟨_, o, e, c, d⟩ := st
    exact ⟨o, e, fun v z => by rw [d] at z; cases z⟩
  keep := fun i h h' st k => ⟨st.1, st.2.at fun o e => k it (by simp) o e⟩
  item := by
    intro X hP hw hK hc i pins s σ H E I hf st hg
    subst hP hw hK
    obtain ⟨hq, hi⟩ := hg
    obtain ⟨its, rv, p, hz⟩ := I.list hq
    have hl := rv.length
    obtain ⟨x, hx⟩ : ∃ x, xs[xs.length - 1 - i]? = some x := ⟨_, List.getElem?_eq_getElem (by omega)⟩
    obtain ⟨u, hu, ru⟩ := rv.get hx
    obtain ⟨f0, f1, f2, f3, f4, f5⟩ := hf it (by simp)
    have st2 := st.2
    have e : (xs.length : Int) - 1 - (i : Int) = ((xs.length - 1 - i : Nat) : Int) := by omega
    rw [e] at st2
    refine wpAny_pyNext_rev_item st2 p.isList (x := u) (by simpa using hu) fun h' st' sb => ?_
    have e2 : ((xs.length - 1 - i : Nat) : Int) - 1 = (xs.length : Int) - 1 - ((i + 1 : Nat) : Int) := by omega
    rw [e2] at st'
    have I1 : Inv X pins σ H { s with heap := h' } := I.turned (t' := s.toks) (fun b o hb e => (sb.2 b hb).trans e) f0 f1 f3 f4 f5
    obtain ⟨o, e, c, d⟩ := id st'
    exact ⟨u, rfl, go_of (s := { s with heap := h' }) e c d (by decide) ⟨x, H, I1, ru, ⟨rfl, hx⟩, ⟨by omega, st'⟩, fun b hb => (hf b hb).1⟩⟩
  done := by
    intro X hP hw hK hc i pins s σ H E I hf st hg
    subst hP hw hK
    obtain ⟨f0, f1, f2, f3, f4, f5⟩ := hf it (by simp)
    have hg' : xs.length ≤ i := hg
    have st2 := st.2
    have e : (xs.length : Int) - 1 - (i : Int) = -1 := by have := st.1; omega
    rw [e] at st2
    exact wpAny_pyNext_rev_end (I.ok.hd hc) st2 fun h' eb => ⟨rfl, I.turned (t' := s.toks) (fun b o hb e => eb b o hb e) f0 f1 f3 f4 f5⟩
  self := fun _ _ _ _ _ st h => wpAny_pyIter_revIter st.2 h
theorem bt_reversed : bootBuiltins "reversed" = some (.type "reversed") := by decide +kernel
section
variable {X : Cx} {O : List Nat} {tg a : Expr} {ge : DS → Option D} {p pos : Pos}
def iRev (K : PySem.W.Frag) (ta : TA) : TI := fun σ H R => ta σ H fun vs H1 => ∃ a xs, vs = [.ref a] ∧ SqL K H1 a xs ∧ R (Itv K a xs) H1
theorem pi_rev {ta : TA} (hg : Gl X "reversed") (hm : X.mg "reversed" = none) (ha : PA X [a] ta) (hs : starEach [a] X.env = [(false, eval a X.env)] := by rfl) : PI X tg (.Call (.Name "reversed" p) [a] [] pos) (iRev X.K ta) := by
  intro pins s σ H R I h
  refine Call_ (ld_blt I hg hm bt_reversed (PyProof.Rows.callWith_type1 (thn (ha pos pins s σ H _ I h) fun us s1 ⟨vs, H1, I1, r1, q1⟩ => ?_) hs rfl))
  obtain ⟨b, xs, e, hq, q⟩ := q1
  subst e
  obtain ⟨u, rfl, ru⟩ := vals1 r1
  cases ru
  obtain ⟨its, rv, pl, hz⟩ := I1.list hq
  have hl := rv.length
  refine call_reversed_list pl.isList ?_
  have it : (s1.heap.push (revObj b ((its.toArray.size : Int) - 1))).IsRevIter s1.heap.objs.size b ((its.toArray.size : Int) - 1) := ⟨_, Heap.get?_push_size _ rfl, rfl, rfl⟩
  refine wpAny_pyIter_revIter it ?_
  refine ⟨s1.heap.objs.size, [s1.heap.objs.size], _, _, H1, rfl, I1.kept (t' := s1.toks) fun b o e => Heap.get?_push_of_some _ e, turn_rev b _ xs, ⟨Nat.zero_le _, ?_⟩, fun b hb => ?_, q⟩
  · have e : (xs.length : Int) - 1 - ((0 : Nat) : Int) = (its.toArray.size : Int) - 1 := by rw [List.size_toArray, hl]; simp
    rw [e]; exact it
  · have e : b = s1.heap.objs.size := by simpa using hb
    subst e
    exact I1.fpOk (Nat.le_refl _) (I1.hok.fresh (Nat.le_refl _))
def gReversed (g : DS → Option D) : DS → Option (List D) := fun δ => (g δ).bind fun | .list l => some l.reverse | _ => none
theorem pd_reversed (hm : X.mg "reversed" = none) (ha : PE X a (tE X.K O ge)) (hg : Gl X "reversed" := by rfl) (hs : starEach [a] X.env = [(false, eval a X.env)] := by rfl) (hs0 : starEach ([] : List Expr) X.env = [] := by rfl) : PI X tg (.Call (.Name "reversed" p) [a] [] pos) (tI X.K O (gReversed ge)) :=
  (pi_rev hg hm (pa_cons ha pa_nil (by rw [hs, hs0])) hs).mono fun σ H Q ⟨U, A0, δ, ds, R, ed, q⟩ => by
    obtain ⟨x, e1, e2⟩ := bind1 ed
    cases x with
    | list l =>
      cases e2
      refine ⟨U, A0, δ, _, R, e1, fun v H' s h => ?_⟩
      cases h with
      | lst hq h =>
        refine ⟨_, _, rfl, (hq.same wo_same).sq, q _ H' s ?_⟩
        intro A' i H2 s2 _
        have h2 := h.same s2
        have hl := h2.len
        refine ⟨fun d hd => ?_, fun hi => by show _ ≤ _; rw [hi, List.length_reverse]; omega⟩
        have hi : i < l.length := by have := (List.getElem?_eq_some_iff.mp hd).1; rwa [List.length_reverse] at this
        refine ⟨⟨((hq.same s2).same wo_same).sq, by omega⟩, fun y H3 hy => ?_⟩
        obtain ⟨rfl, hy⟩ := hy
        refine ⟨Same.refl _, ?_⟩
        rw [List.getElem?_reverse hi, ← hl] at hd
        obtain ⟨z, hz, hzd⟩ := h2.get hd
        rw [hy] at hz; cases hz
        exact hzd
    | _ => cases e2
end
end L2

/-! MY OWN: enumerate; one's own list walked in a comprehension; xs[i] += e -/
namespace L2
open PySem PySem.Spec PyProof.Rows
section
variable {X : Cx} {pins : List (Addr × Obj)} {σ : St} {H : Hp} {s : Shared} {h' : Heap}
/-- several records of ours have turned -/
theorem Inv.turnedL {t' : Nat} {ch : List Addr} (I : Inv X pins σ H s) (k : ∀ b o, b ∉ ch → s.heap.get? b = some o → h'.get? b = some o) (hf : ∀ b ∈ ch, FpOk X pins H b) : Inv X pins σ H { s with heap := h', toks := t' } := by
  have nit : ∀ b u, H b = some u → b ∉ ch := fun b u e z => by rw [(hf b z).1] at e; cases e
  refine I.step (g' := s.gens) (d' := s.drawn) (ch := ch) (fun b hb => ?_) (fun b o _ _ hc e _ => k b o hc e) (fun b o _ _ hc e _ => ⟨o.slots, k b o hc e⟩) (fun _ _ _ _ n => n)
    (fun b o hc e => ⟨o, k b o hc e⟩) (fun _ _ e => e) (fun _ _ _ e => e) (fun b ps e => ⟨#[], by rw [e]; simp⟩) (fun m hm => ?_) (fun b u e => ?_) I.bare
  · obtain ⟨_, a, _, b', c, d⟩ := hf b hb
    exact ⟨b', a, c, d⟩
  · obtain ⟨o, es, ep, ho, r⟩ := hm
    exact ⟨o, es, ep, k _ o (fun z => (hf _ z).2.1 rfl) ho, r⟩
  · refine (I.hok b u e).stay (fun c v hc q => k c v ?_ q) (fun _ q => q) fun _ _ q => q
    rcases hc with z | z
    · rw [z]; exact nit b u e
    · exact nit c _ z
/-- a tuple that stood untracked is tracked -/
theorem Inv.trackT {D : Addr} {ys : List V} {its : List Value} (I : Inv X pins σ H s) (hD : H D = none) (hs : X.s₀.heap.objs.size ≤ D) (hl : D ≠ X.env.locals) (hc : ∀ x c, X.env.cells.lookup x = some c → c ≠ D)
    (hp : ∀ p ∈ X.pn ++ pins, p.1 ≠ D) (e : IsTup s.heap D its.toArray) (r : Vals ys its) (hz : ys.length ≤ sizeLine) : Inv X pins σ (upd H D (.tup ys)) s := by
  have h := I.step (H' := upd H D (.tup ys)) (h' := s.heap) (g' := s.gens) (t' := s.toks) (d' := s.drawn) (ch := [D]) (fun b hb => by
      have e : b = D := by simpa using hb
      subst e
      exact ⟨.inr hs, hl, hc, hp⟩)
    (fun b o _ _ _ q _ => q) (fun b o _ _ _ q _ => ⟨o.slots, q⟩) (fun b o hb _ q => by rw [upd_ne (by simpa using hb)]; exact q) (fun b o _ q => ⟨o, q⟩)
    (fun b xs q => by rw [upd_ne (ne_of_none q hD)]; exact q) (fun b o u q => by rw [upd_ne (ne_of_none q hD)]; exact q) (fun b ps q => ⟨#[], by rw [upd_ne (ne_of_none q hD), Array.append_empty]; exact q⟩) (fun m hm => hm) (fun b u q => ?_) I.bare
  · exact h
  · by_cases hb : b = D
    · subst hb
      rw [upd_same] at q; cases q
      exact ⟨hz, its, r, e⟩
    · rw [upd_ne hb] at q
      exact (I.hok b u q).stay (fun _ _ _ z => z) (fun c z => by rw [upd_ne (ne_of_none z hD)]; exact z) fun c xs z => by rw [upd_ne (ne_of_none z hD)]; exact z
end
/-- (0, x0), (1, x1), .. -/
def Ite (K : PySem.W.Frag) (a : Addr) : It :=
  ⟨fun i H => ∃ xs x, SqL K H a xs ∧ xs[i]? = some x, fun i H x H' => ∃ p v, H p = none ∧ x = .ref p ∧ H' = upd H p (.tup [.int i, v]) ∧ ∀ xs, SqL K H a xs → xs[i]? = some v, fun i H => ∃ xs, SqL K H a xs ∧ xs.length ≤ i⟩
theorem turn_enum {P : Program} {w : World} {K : PySem.W.Frag} {es : List Expr} {kk} {tpos : Pos} (a e it : Addr) (hne : e ≠ it) : Turn P w K (.Tuple es kk tpos) (Ite K a) [e, it] e (fun i h => (∃ old, IsEnum h e it i old) ∧ h.IsListIter it a i) where
  mem := by simp
  obj := fun i h st b hb => by
    obtain ⟨⟨old, he⟩, o, ho, c, d⟩ := st
    rcases List.mem_cons.mp hb with z | z
    · subst z; exact ⟨_, he, fun v z => by cases z⟩
    · have z : b = it := by simpa using z
      subst z; exact ⟨o, ho, fun v z => by rw [d] at z; cases z⟩
  keep := fun i h h' st k => by
    obtain ⟨⟨old, he⟩, st2⟩ := st
    exact ⟨⟨old, k e (by simp) _ he⟩, st2.at fun o eo => k it (by simp) o eo⟩
  item := by
    intro X hP hw hK hc i pins s σ H E I hf st hg
    subst hP hw hK
    obtain ⟨xs, x, hq, hx⟩ := hg
    obtain ⟨its, rv, p, hz⟩ := I.list hq
    obtain ⟨u, hu, ru⟩ := rv.get hx
    obtain ⟨⟨old, he⟩, st2⟩ := st
    refine wpAny_pyNext_enum_item he st2 p.isList (x := u) (by simpa using hu) hne fun h1 heo hit1 ht1 hz1 hk1 => ?_
    refine ⟨_, rfl, wpAny_letOwnedTupleGo_enum heo fun h2 he2 hs2 => ?_⟩
    replace hs2 : Heap.SameBut e h1 h2 := hs2
    have heH : e < s.heap.objs.size := Heap.lt_size he
    have I1 : Inv X pins σ H { s with heap := h2, toks := s.toks + 1 } := I.turnedL (t' := s.toks + 1) (ch := [e, it]) (fun b o hb eo => by
      simp only [List.mem_cons, List.not_mem_nil, or_false, not_or] at hb
      exact (hs2.2 b hb.1).trans (hk1 b o hb.1 hb.2 eo)) hf
    have ht2 : IsTup h2 s.heap.objs.size [Value.int i s.toks, u].toArray := ⟨_, (hs2.2 _ (Nat.ne_of_gt heH)).trans ht1, rfl, _, rfl⟩
    have hfr : H s.heap.objs.size = none := I.hok.fresh (Nat.le_refl _)
    have fo := I.fpOk (H' := H) (Nat.le_refl _) hfr
    have I2 : Inv X pins σ (upd H s.heap.objs.size (.tup [.int i, x])) { s with heap := h2, toks := s.toks + 1 } := I1.trackT hfr (Nat.le_trans I.sz (Nat.le_refl _)) fo.2.1 fo.2.2.2.2.1 fo.2.2.2.2.2 ht2 (.cons ⟨_, rfl⟩ (.cons ru .nil)) (by show 2 ≤ sizeLine; decide)
    refine ⟨.ref s.heap.objs.size, _, I2, rfl, ⟨_, x, hfr, rfl, rfl, fun ys hy => by rw [I.list_inj hy hq]; exact hx⟩, ⟨⟨u, he2⟩, hit1.extBut hs2.extBut (Ne.symm hne)⟩, fun b hb => ?_⟩
    have hlt : b < s.heap.objs.size := by
      rcases List.mem_cons.mp hb with z | z
      · subst z; exact heH
      · have z : b = it := by simpa using z
        subst z
        obtain ⟨o, ho, _⟩ := st2
        exact Heap.lt_size ho
    rw [upd_ne (Nat.ne_of_lt hlt)]
    exact (hf b hb).1
  done := by
    intro X hP hw hK hc i pins s σ H E I hf st hg
    subst hP hw hK
    obtain ⟨xs, hq, hx⟩ := hg
    obtain ⟨its, rv, p, hz⟩ := I.list hq
    obtain ⟨⟨old, he⟩, st2⟩ := st
    have hl := rv.length
    refine wpAny_pyNext_enum_end (I.ok.hd hc) he st2 p.isList (by simp; omega) fun h1 eb => ⟨rfl, ?_⟩
    exact I.turnedL (t' := s.toks) (ch := [e, it]) (fun b o hb eo => eb b o (fun z => hb (by simp [z])) eo) hf
  self := fun _ _ _ _ _ st h => by
    obtain ⟨⟨old, he⟩, _⟩ := st
    exact wpAny_pyIter_enum he h
theorem bt_enumerate : bootBuiltins "enumerate" = some (.type "enumerate") := by decide +kernel
def enumD (l : List D) : List D := l.zipIdx.map fun p => .tuple [.int (p.2 : Nat), p.1]
theorem enumD_get {l : List D} {i : Nat} {d : D} (h : (enumD l)[i]? = some d) : ∃ x, l[i]? = some x ∧ d = .tuple [.int (i : Nat), x] := by
  unfold enumD at h
  rw [List.getElem?_map, List.getElem?_zipIdx] at h
  cases e : l[i]? with
  | none => rw [e] at h; cases h
  | some x => rw [e] at h; simp at h; exact ⟨x, rfl, h.symm⟩
theorem enumD_len {l : List D} : (enumD l).length = l.length := by unfold enumD; simp
section
variable {X : Cx} {O : List Nat} {a : Expr} {ge : DS → Option D} {p pos : Pos} {es : List Expr} {kk} {tpos : Pos}
def iEnum (K : PySem.W.Frag) (ta : TA) : TI := fun σ H R => ta σ H fun vs H1 => ∃ a xs, vs = [.ref a] ∧ SqL K H1 a xs ∧ R (Ite K a) H1
theorem pi_enum {ta : TA} (hg : Gl X "enumerate") (hm : X.mg "enumerate" = none) (ha : PA X [a] ta) (hs : starEach [a] X.env = [(false, eval a X.env)] := by rfl) : PI X (.Tuple es kk tpos) (.Call (.Name "enumerate" p) [a] [] pos) (iEnum X.K ta) := by
  intro pins s σ H R I h
  refine Call_ (ld_blt I hg hm bt_enumerate (PyProof.Rows.callWith_type1 (thn (ha pos pins s σ H _ I h) fun us s1 ⟨vs, H1, I1, r1, q1⟩ => ?_) hs rfl))
  obtain ⟨b, xs, e, hq, q⟩ := q1
  subst e
  obtain ⟨u, rfl, ru⟩ := vals1 r1
  cases ru
  obtain ⟨its, rv, pl, hz⟩ := I1.list hq
  refine call_enumerate_list pl.isList fun h' he hit hsz hk => ?_
  refine wpAny_pyIter_enum he ?_
  refine ⟨s1.heap.objs.size + 1, [s1.heap.objs.size + 1, s1.heap.objs.size], _, _, H1, rfl, I1.kept (t' := s1.toks) hk, turn_enum b _ s1.heap.objs.size (Nat.succ_ne_self _), ⟨⟨_, he⟩, hit⟩, fun b hb => ?_, q⟩
  have hle : s1.heap.objs.size ≤ b := by
    simp only [List.mem_cons, List.not_mem_nil, or_false] at hb
    rcases hb with z | z
    · rw [z]; exact Nat.le_succ _
    · rw [z]; exact Nat.le_refl _
  exact I1.fpOk hle (I1.hok.fresh hle)
def gEnumerate (g : DS → Option D) : DS → Option (List D) := fun δ => (g δ).bind fun | .list l => some (enumD l) | _ => none
theorem pd_enumerate (hm : X.mg "enumerate" = none) (ha : PE X a (tE X.K O ge)) (hg : Gl X "enumerate" := by rfl) (hs : starEach [a] X.env = [(false, eval a X.env)] := by rfl) (hs0 : starEach ([] : List Expr) X.env = [] := by rfl) : PI X (.Tuple es kk tpos) (.Call (.Name "enumerate" p) [a] [] pos) (tI X.K O (gEnumerate ge)) :=
  (pi_enum hg hm (pa_cons ha pa_nil (by rw [hs, hs0])) hs).mono fun σ H Q ⟨U, A0, δ, ds, R, ed, q⟩ => by
    obtain ⟨x, e1, e2⟩ := bind1 ed
    cases x with
    | list l =>
      cases e2
      refine ⟨U, A0, δ, _, R, e1, fun v H' s h => ?_⟩
      cases h with
      | lst hq h =>
        refine ⟨_, _, rfl, (hq.same wo_same).sq, q _ H' s ?_⟩
        intro A' i H2 s2 al
        have h2 := h.same s2
        have hL : SqL X.K H2 _ _ := ((hq.same s2).same wo_same).sq
        refine ⟨fun d hd => ?_, fun hi => ⟨_, hL, by rw [hi, enumD_len, h2.len]; exact Nat.le_refl _⟩⟩
        obtain ⟨y, hy, rfl⟩ := enumD_get hd
        obtain ⟨v, hv, hvd⟩ := h2.get hy
        refine ⟨⟨_, v, hL, hv⟩, fun z H3 hz => ?_⟩
        obtain ⟨p, v', hp, rfl, rfl, hv'⟩ := hz
        have := hv' _ hL
        rw [hv] at this
        cases this
        exact ⟨same_new hp _, HD.newT al hp (.cons (.int _) (.cons hvd .nil))⟩
    | _ => cases e2
end
/-! ### xs[i] op= e on one's own list -/
def rGetL : V → V → Hp → VK → Prop := fun o i H Q => ∃ p xs k v, o = .ref p ∧ i = .int k ∧ 0 ≤ k ∧ H p = some (.lst xs) ∧ atI xs k = some v ∧ Q v H
theorem get_own {X : Cx} : PGet X rGetL := by
  intro pins s σ H o i v u Q I ro ri h
  obtain ⟨p, xs, k, w, rfl, rfl, h0, hp, ha, q⟩ := h
  cases ro
  obtain ⟨t, rfl⟩ := ri
  obtain ⟨its, r, pl, hz⟩ := I.list (SqL.of hp)
  obtain ⟨j, h1, h2, h3, h4, h5⟩ := atI_get ha
  obtain ⟨u', hu, ru⟩ := r.get h2
  have hn := line63
  have hj : k.toNat = j := by
    rw [seqIndex_of h0 h5] at h1
    exact Option.some.inj h1
  exact wpAny_getItem_list pl.isList h0 (by omega) (by rw [hj]; simpa using hu) ⟨w, H, I, ru, q⟩
def gAugIx (i : Nat) (f : Int → Int → Int) (gx ge : DS → Option D) : DS → Option Res := fun δ => (gVar i δ).bind fun x => (gx δ).bind fun k => (ge δ).bind fun y => match x, k, y with
  | .list ds, .int n, .int b => if 0 ≤ n then (ixN ds.length n).bind fun j => (ds[j]?).bind fun | .int a => some (.nx (δ.set i (some (.list (ds.set j (.int (f a b))))))) | _ => none else none
  | _, _, _ => none
theorem pd_augIx {X : Cx} {O : List Nat} {fr : Bool} {st : Stmt} {ge gx : DS → Option D} {i : Nat} {f : Int → Int → Int} (h : PS X st (tAugS (tVar i) (tSh X.K O gx) (tSh X.K O ge) rGetL (ipI f) rSetL)) (hi : i ∈ O := by decide) : PS X st (tS X.K O fr (gAugIx i f gx ge)) := h.mono fun E σ H ⟨H0, U, A0, δ, r, R, F, ed, P⟩ => by
  obtain ⟨x, e1, ed⟩ := bind1 ed
  obtain ⟨k, e2, ed⟩ := bind1 ed
  obtain ⟨y, e3, ed⟩ := bind1 ed
  obtain ⟨l, ys, ds, hl, rfl, hU, h1, h2⟩ := R.ow i x hi (join_some e1)
  cases k with
  | int n => cases y with
    | int b =>
      simp only at ed
      split at ed
      · rename_i h0
        obtain ⟨j, e4, ed⟩ := bind1 ed
        obtain ⟨a, e5, ed⟩ := bind1 ed
        cases a with
        | int a =>
          cases ed
          obtain ⟨v, hv, hd⟩ := h2.get e5
          cases hd
          refine ⟨.ref l, hl, U, A0, δ, _, R, e2, fun v2 H2 s2 h2' => ⟨l, ys, n, .int a, rfl, h2'.int, h0, s2 _ _ h1, ?_, U, A0, δ, _, R.same s2, e3, fun v3 H3 s3 h3' => ⟨a, b, rfl, h3'.int, l, ys, n, j, rfl, h2'.int, (s2.trans s3) _ _ h1, by rw [h2.len]; exact e4, ?_⟩⟩⟩
          · unfold L2.atI; rw [h2.len, e4]; exact hv
          · exact P U σ _ ((R.same (s2.trans s3)).put hi hl hU (HDs.setD (.int _) j (h2.same (wo_mono (s2.trans s3)))) ⟨_, join_some e1⟩) ((F.grow (s2.trans s3)).put hU _)
        | _ => cases ed
      · cases ed
    | _ => cases ed
  | _ => cases y <;> cases ed
/-! ### one's own list walked where nothing is changed -/
def WalksS (K : PySem.W.Frag) (A : List Addr) (H1 : Hp) (J : It) (ds : List D) : Prop := ∀ (i : Nat) (H : Hp), Same H1 H →
  (∀ d, ds[i]? = some d → J.go i H ∧ ∀ x H2, J.yld i H x H2 → Same H H2 ∧ HD K (wo H2 A) x d) ∧ (i = ds.length → J.stop i H)
def tIc (K : PySem.W.Frag) (O : List Nat) (g : DS → Option (List D)) : TI := fun σ H R => ∃ U A0 δ ds, Rel K O U A0 σ δ H ∧ g δ = some ds ∧ ∀ J H1, Same H H1 → WalksS K (U ++ A0) H1 J ds → R J H1
section
variable {X : Cx} {O : List Nat} {tg e : Expr} {gi : DS → Option (List D)} {ge : DS → Option D} {pos : Pos}
theorem PI.c (h : PI X tg e (tI X.K O gi)) : PI X tg e (tIc X.K O gi) := h.mono fun σ H Q ⟨U, A0, δ, ds, R, ed, q⟩ => ⟨U, A0, δ, ds, R, ed, fun J H1 s hw => q J H1 s fun i H2 s2 => hw (U ++ A0) i H2 (wo_mono s2) ((R.same (s.trans s2)).al)⟩
theorem pd_iown (h : PE X e (tSh X.K O ge)) : PI X tg e (tIc X.K O (gItems ge)) := (pi_seq h).mono fun σ H Q ⟨U, A0, δ, ds, R, ed, q⟩ => by
  obtain ⟨x, e1, e2⟩ := bind1 ed
  cases x with
  | list l =>
    cases e2
    refine ⟨U, A0, δ, _, R, e1, fun v H' s h => ?_⟩
    obtain ⟨p, xs, rfl, h1, h2⟩ := h.list
    refine .inl ⟨_, rfl, ⟨_, h1.sq⟩, q _ H' s ?_⟩
    intro i H2 s2
    have h2' := h2.same (wo_mono (A := U ++ A0) s2)
    have hL : SqL X.K H2 _ _ := (h1.same s2).sq
    refine ⟨fun d hd => ?_, fun hi => ⟨_, hL, by rw [h2'.len]; omega⟩⟩
    obtain ⟨x, hx, hxd⟩ := h2'.get hd
    refine ⟨⟨_, x, hL, hx⟩, fun y H3 hy => ?_⟩
    obtain ⟨rfl, hy⟩ := hy
    have := hy _ hL
    rw [hx] at this
    cases this
    exact ⟨Same.refl _, hxd⟩
  | tuple l =>
    cases e2
    refine ⟨U, A0, δ, _, R, e1, fun v H' s h => ?_⟩
    obtain ⟨p, xs, rfl, h1, h2⟩ := h.tuple
    refine .inr ⟨_, rfl, ⟨_, h1⟩, q _ H' s ?_⟩
    intro i H2 s2
    have h2' := h2.same (wo_mono (A := U ++ A0) s2)
    have hL : SqT X.K H2 _ _ := s2.tup h1
    refine ⟨fun d hd => ?_, fun hi => ⟨_, hL, by rw [h2'.len]; omega⟩⟩
    obtain ⟨x, hx, hxd⟩ := h2'.get hd
    refine ⟨⟨_, x, hL, hx⟩, fun y H3 hy => ?_⟩
    obtain ⟨rfl, hy⟩ := hy
    have := hy _ hL
    rw [hx] at this
    cases this
    exact ⟨Same.refl _, hxd⟩
  | _ => cases e2
end
theorem cBlock_S {K : PySem.W.Frag} {O : List Nat} {U A0 : List Addr} {σ : St} {δ : DS} {H H1 : Hp} {J : It} {ix : List Nat} {ge : DS → Option D} {ds xs : List D} {Q : VK} (R : Rel K O U A0 σ δ H) (s : Same H H1) (hix : ∀ j ∈ ix, j ∉ O) (hw : WalksS K (U ++ A0) H1 J ds)
    (hl : ds.length ≤ 100000) (e : mapD (fun d => ge (some d :: captD ix δ)) ds = some xs) (q : ∀ r ys H', Same H H' → H r = none → H' r = some (.lst ys) → HDs K (wo H' (r :: (U ++ A0))) ys xs → Q (.ref r) H') : cBlock J ix (tE K [] ge) σ H1 Q := by
  have hxl := mapD_len e
  have big : (100000 : Nat) < sizeLine := by decide
  refine ⟨fun i m ys H2 => m = ds.length - i ∧ i ≤ ds.length ∧ Same H1 H2 ∧ ys.length = i ∧ HDs K (wo H2 (U ++ A0)) ys (xs.take i), ⟨ds.length, by simp, Nat.zero_le _, Same.refl _, rfl, .nil⟩, ?_⟩
  rintro i m ys H2 ⟨rfl, hle, s2, hyl, hy⟩
  refine ⟨by omega, ?_⟩
  obtain ⟨hgo, hstop⟩ := hw i H2 s2
  by_cases hlt : i < ds.length
  · obtain ⟨d, hd⟩ : ∃ d, ds[i]? = some d := ⟨_, List.getElem?_eq_getElem hlt⟩
    obtain ⟨go, hyd⟩ := hgo d hd
    obtain ⟨x, e1, e2⟩ := mapD_snoc e hd
    refine .inr ⟨go, by omega, fun y H3 => ∃ m', m' < ds.length - i ∧ (m' = ds.length - (i + 1) ∧ i + 1 ≤ ds.length ∧ Same H1 H3 ∧ (ys ++ [y]).length = i + 1 ∧ HDs K (wo H3 (U ++ A0)) (ys ++ [y]) (xs.take (i + 1))), fun _ _ h => h, fun v H3 y => ?_⟩
    obtain ⟨s3, hv⟩ := hyd v H3 y
    have R3 := (R.same (s.trans (s2.trans s3))).capt hix hv
    refine ⟨U, A0, _, x, R3, e1, fun u H4 s4 hu => ⟨_, by omega, rfl, hlt, (s2.trans s3).trans s4, by simp [hyl], ?_⟩⟩
    have ht : xs.take (i + 1) = xs.take i ++ [x] := by
      rw [List.take_succ, e2]; rfl
    rw [ht]
    exact (hy.same (wo_mono (s3.trans s4))).app (.cons hu .nil)
  · have hi : i = ds.length := by omega
    subst hi
    refine .inl ⟨hstop rfl, fun p hp => ?_⟩
    rw [List.take_of_length_le (by omega)] at hy
    exact new_q (s.trans s2) q p ys hp hy
section
variable {X : Cx} {O : List Nat} {fr : Bool} {scope : Scope} {x : Str} {elt iter : Expr} {px pos : Pos} {gi : DS → Option (List D)} {ge : DS → Option D}
theorem tComp_S {K : PySem.W.Frag} {ix : List Nat} (hix : ∀ j ∈ ix, j ∉ O) {σ : St} {H : Hp} {Q : VK} : tN K O (gComp gi ix ge) σ H Q → tComp (tIc K O gi) ix (tE K [] ge) σ H Q := fun ⟨U, A0, δ, xs, R, ed, q⟩ => by
  obtain ⟨ds, e1, e2⟩ := bind1 ed
  split at e2
  · rename_i hl
    exact ⟨U, A0, δ, ds, R, e1, fun J H1 s hw => cBlock_S R s hix hw hl e2 q⟩
  · cases e2
theorem pd_compS (sc : Scope) (N : List Str) (ix : List Nat) (N' : List Str) (hi : PI X (.Name x px) iter (tIc X.K O gi)) (helt : ∀ cl C s2 H2 fp pins, PE (compCx X scope N' cl C s2 H2 fp pins) elt (tE X.K [] ge)) (hix : ∀ j ∈ ix, j ∉ O := by decide) (hk : compChk sc scope N x ix N' = true := by decide +kernel) (hN : N'.Nodup := by decide +kernel)
    (e1 : X.env.scope = sc := by rfl) (e2 : X.N = N := by rfl) (hc : X.calm = true := by rfl) (hs : ∀ x, foldedSetIterable iter X.env x = pure x := by intro _; rfl) : PE X (.ListComp elt [⟨.Name x px, iter, [], 0⟩] scope pos) (tN X.K O (gComp gi ix ge)) :=
  (pe_comp sc N ix N' hi helt hk hN e1 e2 hc hs).mono fun _ _ _ => tComp_S hix
theorem pd_setCS {i : Nat} {y : Str} {py spos : Pos} (sc : Scope) (N : List Str) (ix : List Nat) (N' : List Str) (hN0 : X.N.Nodup) (hi0 : X.N[i]? = some y) (hy : X.env.scope.names.lookup y = some .local) (hi : PI X (.Name x px) iter (tIc X.K O gi)) (helt : ∀ cl C s2 H2 fp pins, PE (compCx X scope N' cl C s2 H2 fp pins) elt (tE X.K [] ge)) (hix : ∀ j ∈ ix, j ∉ O := by decide) (hk : compChk sc scope N x ix N' = true := by decide +kernel) (hN : N'.Nodup := by decide +kernel)
    (e1 : X.env.scope = sc := by rfl) (e2 : X.N = N := by rfl) (hc : X.calm = true := by rfl) (hs : ∀ x, foldedSetIterable iter X.env x = pure x := by intro _; rfl) (hsw : swapsWith (.ListComp elt [⟨.Name x px, iter, [], 0⟩] scope pos) (some (.Name y py)) spos.line X.env = pure true := by rfl) :
    PS X (.Assign [.Name y py] (.ListComp elt [⟨.Name x px, iter, [], 0⟩] scope pos) spos) (tAsg (tN X.K O (gComp gi ix ge)) (gName i)) :=
  (ps_setC sc N ix N' hN0 hi0 hy hi helt hk hN e1 e2 hc hs hsw).mono fun _ _ _ h => tComp_S hix h
end
end L2

/-! MY OWN: for x in [new lists]: x itself may be changed -/
namespace L2
open PySem PySem.Spec PyProof.Rows
/-- new lists, hidden from one another -/
structure NewLs (K : PySem.W.Frag) (A : List Addr) (H H' : Hp) (rs : List Addr) (dss : List (List D)) : Prop where
  len : rs.length = dss.length
  nd : rs.Nodup
  fr : ∀ r ∈ rs, H r = none
  got : ∀ (k : Nat) r ds, rs[k]? = some r → dss[k]? = some ds → ∃ ys, H' r = some (.lst ys) ∧ HDs K (wo H' (rs ++ A)) ys ds
def tAsN (K : PySem.W.Frag) (O : List Nat) (g : DS → Option (List (List D))) : TA := fun σ H Q => ∃ U A0 δ dss, Rel K O U A0 σ δ H ∧ g δ = some dss ∧ ∀ rs H', Same H H' → NewLs K (U ++ A0) H H' rs dss → Q (rs.map .ref) H'
def gNilL : DS → Option (List (List D)) := fun _ => some []
def gConsL (a : DS → Option (List D)) (r : DS → Option (List (List D))) : DS → Option (List (List D)) := fun δ => (a δ).bind fun x => (r δ).bind fun xs => some (x :: xs)
/-- one more is hidden by the caller -/
theorem Rel.hide {K : PySem.W.Frag} {O : List Nat} {U A0 : List Addr} {σ : St} {δ : DS} {H H' : Hp} (R : Rel K O U A0 σ δ H) (s : Same H H') {r : Addr} {ys : List V} (hr : H r = none) (h : H' r = some (.lst ys)) : Rel K O U (r :: A0) σ δ H' := by
  have k : Same (wo H (U ++ A0)) (wo H' (U ++ (r :: A0))) := fun b o q => by
    obtain ⟨h1, h2⟩ := wo_some q
    rw [wo_out]
    · exact s b o h2
    · simp only [List.mem_append, List.mem_cons, not_or] at h1 ⊢
      exact ⟨h1.1, ne_of_none h2 hr, h1.2⟩
  exact {
    len := R.len
    fz := fun i d hi e => let ⟨v, a, b⟩ := R.fz i d hi e; ⟨v, a, b.same k⟩
    ow := fun i d hi e => let ⟨l, ys, ds, a, b, c, f, g⟩ := R.ow i d hi e; ⟨l, ys, ds, a, b, c, s _ _ f, g.same k⟩
    inj := R.inj
    al := fun a ha => by
      simp only [List.mem_append, List.mem_cons] at ha
      rcases ha with z | z | z
      · exact (R.al.same s) a (by simp [z])
      · subst z; exact ⟨ys, h⟩
      · exact (R.al.same s) a (by simp [z]) }
section
variable {X : Cx} {O : List Nat} {e : Expr} {es : List Expr} {ga : DS → Option (List D)} {gr : DS → Option (List (List D))} {pos : Pos}
theorem pd_lnil : PA X [] (tAsN X.K O gNilL) := pa_nil.mono fun σ H Q ⟨U, A0, δ, d, R, ed, q⟩ => by
  cases ed
  exact q [] H (Same.refl H) ⟨rfl, List.nodup_nil, fun r h => by simp at h, fun k r ds e => by simp at e⟩
theorem pd_lcons (ha : PE X e (tN X.K O ga)) (hr : PA X es (tAsN X.K O gr)) (hs : starEach (e :: es) X.env = (false, eval e X.env) :: starEach es X.env := by rfl) : PA X (e :: es) (tAsN X.K O (gConsL ga gr)) := (pa_cons ha hr hs).mono fun σ H Q ⟨U, A0, δ, dss, R, ed, q⟩ => by
  obtain ⟨x, xs, e1, e2, e3⟩ := bind2 ed
  cases e3
  refine ⟨U, A0, δ, x, R, e1, fun r ys H1 s1 hr h1 h2 => ⟨U, r :: A0, δ, xs, R.hide s1 hr h1, e2, fun rs H2 s2 N => q (r :: rs) H2 (s1.trans s2) ⟨by rw [List.length_cons, List.length_cons, N.len], ?_, ?_, ?_⟩⟩⟩
  · refine List.nodup_cons.mpr ⟨fun z => ?_, N.nd⟩
    rw [N.fr r z] at h1; cases h1
  · intro b hb
    rcases List.mem_cons.mp hb with z | z
    · subst z; exact hr
    · exact s1.free (N.fr b z)
  · intro k r' ds e4 e5
    cases k with
    | zero =>
      simp at e4 e5
      subst e4 e5
      refine ⟨ys, s2 _ _ h1, h2.same fun b o w => ?_⟩
      obtain ⟨w1, w2⟩ := wo_some w
      rw [wo_out]
      · exact s2 b o w2
      · simp only [List.cons_append, List.mem_cons, List.mem_append, not_or] at w1 ⊢
        exact ⟨w1.1, fun z => (by rw [N.fr b z] at w2; cases w2), w1.2⟩
    | succ k =>
      obtain ⟨zs, f1, f2⟩ := N.got k r' ds (by simpa using e4) (by simpa using e5)
      refine ⟨zs, f1, f2.same (wo_sub fun a ha => ?_)⟩
      simp only [List.cons_append, List.mem_cons, List.mem_append] at ha ⊢
      rcases ha with z | z | z | z
      · exact .inr (.inr (.inl z))
      · exact .inl z
      · exact .inr (.inl z)
      · exact .inr (.inr (.inr z))
end
theorem wo_eqm {H : Hp} {A B : List Addr} (h : ∀ a, a ∈ A ↔ a ∈ B) : wo H A = wo H B := by
  funext a
  by_cases z : a ∈ A
  · rw [wo_in z, wo_in ((h a).mp z)]
  · rw [wo_out z, wo_out fun y => z ((h a).mpr y)]
/-- the next of the hidden lists becomes one's own -/
theorem Rel.take {K : PySem.W.Frag} {O : List Nat} {U A0 : List Addr} {σ : St} {δ : DS} {H : Hp} {r : Addr} {ys : List V} {ds : List D} {i : Nat} (R : Rel K O U (r :: A0) σ δ H) (h1 : H r = some (.lst ys)) (h2 : HDs K (wo H (U ++ (r :: A0))) ys ds) (hi : i ∈ O) (hU : r ∉ U) :
    Rel K O (r :: U) A0 (σ.set i (some (.ref r))) (δ.set i (some (.list ds))) H := by
  have ew : wo H (r :: U ++ A0) = wo H (U ++ (r :: A0)) := wo_eqm fun a => by
    simp only [List.cons_append, List.mem_cons, List.mem_append]
    constructor
    · rintro (z | z | z)
      · exact .inr (.inl z)
      · exact .inl z
      · exact .inr (.inr z)
    · rintro (z | z | z)
      · exact .inr (.inl z)
      · exact .inl z
      · exact .inr (.inr z)
  have len1 : ∀ {x : D}, (δ.set i (some (.list ds)))[i]? = some (some x) → i < δ.length := fun w => by have := (List.getElem?_eq_some_iff.mp w).1; rwa [List.length_set] at this
  exact {
    len := by rw [List.length_set, List.length_set]; exact R.len
    fz := fun j e hj q => by
      have hij : i ≠ j := fun z => hj (z ▸ hi)
      rw [List.getElem?_set_ne hij] at q ⊢
      rw [ew]
      exact R.fz j e hj q
    ow := fun j e hj w => by
      rw [ew]
      by_cases hij : i = j
      · subst hij
        have hl := len1 w
        rw [List.getElem?_set_self hl] at w
        cases w
        exact ⟨r, ys, ds, List.getElem?_set_self (by rw [R.len]; exact hl), rfl, by simp, h1, h2⟩
      · rw [List.getElem?_set_ne hij] at w ⊢
        obtain ⟨l, ys, ds, a, b, c, f, g⟩ := R.ow j e hj w
        exact ⟨l, ys, ds, a, b, by simp [c], f, g⟩
    inj := fun j k d e l hj hk hjk q1 q2 e1 e2 => by
      by_cases hij : i = j
      · subst hij
        have hik : i ≠ k := hjk
        rw [List.getElem?_set_self (by rw [R.len]; exact len1 q1)] at e1
        rw [List.getElem?_set_ne hik] at q2 e2
        cases e1
        obtain ⟨l, _, _, a, _, c, _, _⟩ := R.ow k e hk q2
        rw [a] at e2; cases e2
        exact hU c
      · by_cases hik : i = k
        · subst hik
          rw [List.getElem?_set_self (by rw [R.len]; exact len1 q2)] at e2
          rw [List.getElem?_set_ne hij] at q1 e1
          cases e2
          obtain ⟨l, _, _, a, _, c, _, _⟩ := R.ow j d hj q1
          rw [a] at e1; cases e1
          exact hU c
        · rw [List.getElem?_set_ne hij] at q1 e1
          rw [List.getElem?_set_ne hik] at q2 e2
          exact R.inj j k d e l hj hk hjk q1 q2 e1 e2
    al := fun a ha => R.al a (by
      simp only [List.cons_append, List.mem_cons, List.mem_append] at ha ⊢
      rcases ha with z | z | z
      · exact .inr (.inl z)
      · exact .inl z
      · exact .inr (.inr z)) }
/-- fewer are hidden by the caller -/
theorem Rel.show {K : PySem.W.Frag} {O : List Nat} {U A A0 : List Addr} {σ : St} {δ : DS} {H : Hp} (R : Rel K O U A σ δ H) (h : ∀ a ∈ A0, a ∈ A) : Rel K O U A0 σ δ H := by
  have k : Same (wo H (U ++ A)) (wo H (U ++ A0)) := wo_sub fun a ha => by
    rcases List.mem_append.mp ha with z | z
    · exact List.mem_append_left _ z
    · exact List.mem_append_right _ (h a z)
  exact {
    len := R.len
    fz := fun i d hi e => let ⟨v, a, b⟩ := R.fz i d hi e; ⟨v, a, b.same k⟩
    ow := fun i d hi e => let ⟨l, ys, ds, a, b, c, f, g⟩ := R.ow i d hi e; ⟨l, ys, ds, a, b, c, f, g.same k⟩
    inj := R.inj
    al := fun a ha => by
      rcases List.mem_append.mp ha with z | z
      · exact R.al a (List.mem_append_left _ z)
      · exact R.al a (List.mem_append_right _ (h a z)) }
theorem Rel.hideL {K : PySem.W.Frag} {O : List Nat} {U A0 rs : List Addr} {σ : St} {δ : DS} {H H' : Hp} (R : Rel K O U A0 σ δ H) (s : Same H H') (hr : ∀ r ∈ rs, H r = none) (h : ∀ r ∈ rs, ∃ ys, H' r = some (.lst ys)) : Rel K O U (rs ++ A0) σ δ H' := by
  have k : Same (wo H (U ++ A0)) (wo H' (U ++ (rs ++ A0))) := fun b o q => by
    obtain ⟨h1, h2⟩ := wo_some q
    rw [wo_out]
    · exact s b o h2
    · simp only [List.mem_append, not_or] at h1 ⊢
      exact ⟨h1.1, fun z => (by rw [hr b z] at h2; cases h2), h1.2⟩
  exact {
    len := R.len
    fz := fun i d hi e => let ⟨v, a, b⟩ := R.fz i d hi e; ⟨v, a, b.same k⟩
    ow := fun i d hi e => let ⟨l, ys, ds, a, b, c, f, g⟩ := R.ow i d hi e; ⟨l, ys, ds, a, b, c, s _ _ f, g.same k⟩
    inj := R.inj
    al := fun a ha => by
      simp only [List.mem_append] at ha
      rcases ha with z | z | z
      · exact (R.al.same s) a (by simp [z])
      · exact h a z
      · exact (R.al.same s) a (by simp [z]) }
def gNews (g : DS → Option (List (List D))) : DS → Option (List D) := fun δ => (g δ).bind fun dss => if dss.length ≤ 100000 then some (dss.map .list) else none
section
variable {X : Cx} {O : List Nat} {fr : Bool} {body : List Stmt} {gb : DS → Option Res} {gl : DS → Option (List (List D))} {tg : Expr} {es : List Expr} {i : Nat} {pos lpos : Pos}
theorem pd_forN (hp : PassesOwn (model X.prog X.w) X.A X.env X.xe) (hc : X.calm = true) (ha : PA X es (tAsN X.K O gl)) (hg : PG X tg (gName i)) (hb : PSs X body (tS X.K O fr gb))
    (hi : i ∈ O := by decide) (hs : ∀ x, foldedSetIterable (.List es lpos) X.env x = pure x := by intro _; rfl) : PS X (.For tg (.List es lpos) body [] pos) (tS X.K O fr (gFor (gNews gl) (gName' i) gb)) := (ps_for hp hc (pi_list (pe_lst ha)) hg hb hs).mono fun E σ H ⟨H0, U, A0, δ, r, R, F, ed, P⟩ => by
  obtain ⟨ls, e1, e2⟩ := bind1 ed
  obtain ⟨dss, e3, e4⟩ := bind1 e1
  split at e4
  case isFalse => cases e4
  rename_i hlen
  cases e4
  refine ⟨U, A0, δ, dss, R, e3, fun rs H1 s1 N => ⟨by rw [List.length_map, N.len]; exact small hlen, fun p hp0 => ⟨p, rfl, ⟨_, SqL.of upd_same⟩, ?_⟩⟩⟩
  have sp := same_new hp0 (.lst (rs.map V.ref))
  have hold : ∀ r ∈ rs, ∃ ys, H1 r = some (.lst ys) := fun r hr => by
    obtain ⟨k, hk, e⟩ := List.getElem_of_mem hr
    obtain ⟨ys, f, _⟩ := N.got k r (dss[k]'(by rw [← N.len]; exact hk)) (by rw [List.getElem?_eq_getElem hk, e]) (List.getElem?_eq_getElem _)
    exact ⟨ys, f⟩
  have hrU : ∀ r ∈ rs, r ∉ U := fun r hr z => by
    obtain ⟨ys, f⟩ := R.al r (List.mem_append_left _ z)
    rw [N.fr r hr] at f; cases f
  have hrp : ∀ r ∈ rs, r ≠ p := fun r hr z => by
    obtain ⟨ys, f⟩ := hold r hr
    rw [z, hp0] at f; cases f
  have hpU : p ∉ U := fun z => by
    obtain ⟨ys, f⟩ := (R.al.same s1) p (List.mem_append_left _ z)
    rw [hp0] at f; cases f
  obtain ⟨W, hW⟩ : ∃ W : Nat → Nat → St → Hp → Prop, W = fun j m σ H => m = dss.length - j ∧ j ≤ dss.length ∧ ∃ U2 δ, Rel X.K O U2 (rs.drop j ++ A0) σ δ H ∧ Fx H0 A0 U2 H ∧ H p = some (.lst (rs.map V.ref)) ∧ p ∉ U2 ∧ (∀ a ∈ U2, a ∉ rs.drop j) ∧
      (∀ (k : Nat) r' ds, j ≤ k → rs[k]? = some r' → dss[k]? = some ds → ∃ ys, H r' = some (.lst ys) ∧ HDs X.K (wo H (U2 ++ (rs.drop j ++ A0))) ys ds) ∧ forD (gName' i) gb ((dss.drop j).map .list) δ = some r := ⟨_, rfl⟩
  refine ⟨W, ⟨dss.length, ?_⟩, ?_⟩
  · rw [hW]
    refine ⟨by simp, Nat.zero_le _, U, δ, ?_, F.grow (s1.trans sp), upd_same, hpU, fun a ha z => hrU a z ha, fun k r' ds _ ek ed => ?_, by simpa using e2⟩
    · exact R.hideL (s1.trans sp) N.fr fun r hr => let ⟨ys, f⟩ := hold r hr; ⟨ys, sp _ _ f⟩
    · obtain ⟨ys, f1, f2⟩ := N.got k r' ds ek ed
      refine ⟨ys, sp _ _ f1, f2.same fun b o w => ?_⟩
      obtain ⟨w1, w2⟩ := wo_some w
      rw [wo_out]
      · exact sp _ _ w2
      · simp only [List.drop_zero, List.mem_append, not_or] at w1 ⊢
        exact ⟨w1.2.1, w1.1, w1.2.2⟩
  intro j m σ H hI
  rw [hW] at hI
  obtain ⟨rfl, hle, U2, δ, R2, F2, hpl, hp2, hU2, hat, ef⟩ := hI
  by_cases hlt : j < dss.length
  · obtain ⟨ds, hds⟩ : ∃ ds, dss[j]? = some ds := ⟨_, List.getElem?_eq_getElem hlt⟩
    have hjr : j < rs.length := by rw [N.len]; exact hlt
    obtain ⟨q, hq⟩ : ∃ q, rs[j]? = some q := ⟨_, List.getElem?_eq_getElem hjr⟩
    have hqm : q ∈ rs := List.mem_of_getElem? hq
    have drd : dss.drop j = ds :: dss.drop (j + 1) := by
      rw [List.drop_eq_getElem_cons hlt]
      rw [List.getElem?_eq_getElem hlt] at hds
      cases hds; rfl
    have drr : rs.drop j = q :: rs.drop (j + 1) := by
      rw [List.drop_eq_getElem_cons hjr]
      rw [List.getElem?_eq_getElem hjr] at hq
      cases hq; rfl
    obtain ⟨ys, hq1, hq2⟩ := hat j q ds (Nat.le_refl _) hq hds
    have hqU : q ∉ U2 := fun z => hU2 q z (by rw [drr]; simp)
    have hnd : (rs.drop j).Nodup := N.nd.sublist (List.drop_sublist _ _)
    rw [drr] at R2 hq2 hnd
    have hqd : q ∉ rs.drop (j + 1) := (List.nodup_cons.mp hnd).1
    have R3 := R2.take hq1 hq2 hi hqU
    rw [drd, List.map_cons, forD] at ef
    obtain ⟨δ1, e5, e6⟩ := bind1 ef
    cases e5
    obtain ⟨res, e7, e8⟩ := bind1 e6
    have hq0 : H0 q = none := F.same.free (N.fr q hqm)
    have A0q : q ∉ A0 := fun z => by
      obtain ⟨ys, f⟩ := F.old q z
      rw [hq0] at f; cases f
    have k0 : ∀ a o, H0 a = some o → wo H (q :: U2) a = some o := fun a o e => by
      rw [wo_out]
      · exact F2.same _ _ e
      · intro z
        rcases List.mem_cons.mp z with z | z
        · rw [z, hq0] at e; cases e
        · rw [F2.new a z] at e; cases e
    have kd : ∀ a, a ∈ rs.drop (j + 1) → ∃ ys, wo H (q :: U2) a = some (.lst ys) := fun a ha => by
      obtain ⟨ys, f⟩ := R2.al a (by simp [ha])
      refine ⟨ys, ?_⟩
      rw [wo_out]
      · exact f
      · intro z
        rcases List.mem_cons.mp z with z | z
        · exact hqd (z ▸ ha)
        · exact hU2 a z (by rw [drr]; simp [ha])
    have FB : Fx (wo H (q :: U2)) (rs.drop (j + 1) ++ A0) (q :: U2) H := ⟨wo_same, fun _ h => wo_in h, fun a ha => by
      rcases List.mem_append.mp ha with z | z
      · exact kd a z
      · obtain ⟨ys, f⟩ := F.old a z
        exact ⟨ys, k0 a _ f⟩⟩
    have kp : wo H (q :: U2) p = some (.lst (rs.map V.ref)) := by
      rw [wo_out]
      · exact hpl
      · intro z
        rcases List.mem_cons.mp z with z | z
        · exact hrp q hqm z.symm
        · exact hp2 z
    have trans : ∀ {U' : List Addr} {H' : Hp}, Fx (wo H (q :: U2)) (rs.drop (j + 1) ++ A0) U' H' → Fx H0 A0 U' H' := fun G => ⟨fun a o e => G.same _ _ (k0 a o e), fun a ha => (by
      cases e : H0 a with
      | none => rfl
      | some o =>
        have := G.new a ha
        rw [k0 a o e] at this; cases this), F.old⟩
    refine .inr ⟨⟨_, .ref q, SqL.of hpl, by rw [List.getElem?_map, hq]; rfl⟩, fun σ' H' => ∃ m', m' < dss.length - j ∧ W (j + 1) m' σ' H', fun _ _ h => h, fun x H2 y => ?_⟩
    obtain ⟨rfl, y⟩ := y
    have hx := y _ (SqL.of hpl)
    rw [List.getElem?_map, hq] at hx
    cases hx
    refine ⟨wo H2 (q :: U2), q :: U2, rs.drop (j + 1) ++ A0, δ.set i (some (.list ds)), res, R3, FB, e7, ?_⟩
    have next : ∀ {δ' : DS} (U' : List Addr) (σ' : St) (H' : Hp), forD (gName' i) gb ((dss.drop (j + 1)).map .list) δ' = some r → Rel X.K O U' (rs.drop (j + 1) ++ A0) σ' δ' H' → Fx (wo H2 (q :: U2)) (rs.drop (j + 1) ++ A0) U' H' → ∃ m', m' < dss.length - j ∧ W (j + 1) m' σ' H' := by
      intro δ' U' σ' H' ef R' G
      refine ⟨dss.length - (j + 1), by omega, ?_⟩
      rw [hW]
      refine ⟨rfl, hlt, U', δ', R', trans G, G.same _ _ kp, fun z => (by rw [G.new p z] at kp; cases kp), fun a ha z => ?_, fun k r' d hk ek edk => ?_, ef⟩
      · obtain ⟨ys, f⟩ := kd a z
        rw [G.new a ha] at f; cases f
      · obtain ⟨zs, f1, f2⟩ := hat k r' d (by omega) ek edk
        have hmem : r' ∈ rs.drop (j + 1) := List.mem_of_getElem? (i := k - (j + 1)) (by rw [List.getElem?_drop, show j + 1 + (k - (j + 1)) = k by omega]; exact ek)
        obtain ⟨zs', g1⟩ := kd r' hmem
        have g2 : H2 r' = some (.lst zs') := (wo_some g1).2
        rw [f1] at g2
        cases g2
        refine ⟨zs, G.same _ _ g1, f2.same fun b o w => ?_⟩
        obtain ⟨w1, w2⟩ := wo_some w
        rw [drr] at w1
        simp only [List.mem_append, List.cons_append, List.mem_cons, not_or] at w1
        have w3 : wo H2 (q :: U2) b = some o := by
          rw [wo_out]
          · exact w2
          · simp only [List.mem_cons, not_or]; exact ⟨w1.2.1, w1.1⟩
        rw [wo_out]
        · exact G.same _ _ w3
        · simp only [List.mem_append, not_or]
          exact ⟨fun z => (by rw [G.new b z] at w3; cases w3), w1.2.2.1, w1.2.2.2⟩
    cases res with
    | nx δ' => exact fun U' σ' H' R' G => next U' σ' H' e8 R' G
    | ct δ' => exact fun U' σ' H' R' G => next U' σ' H' e8 R' G
    | bk δ' => cases e8; exact fun U' σ' H' R' G => P U' σ' H' (R'.show fun a ha => List.mem_append_right _ ha) (trans G)
    | rt d =>
      cases e8
      intro v H' h
      refine P v H' ?_
      unfold RetR at h ⊢
      split
      · rename_i hf
        rw [if_pos hf] at h
        obtain ⟨r', ys, ds', a, b, c, e, f, g⟩ := h
        refine ⟨r', ys, ds', a, b, fun x o z => c _ _ (k0 x o z), ?_, f, g.same (wo_sub fun a ha => ?_)⟩
        · cases z : H0 r' with
          | none => rfl
          | some o => rw [k0 r' o z] at e; cases e
        · rcases List.mem_cons.mp ha with z | z
          · subst z; simp
          · exact List.mem_cons_of_mem _ (List.mem_append_right _ z)
      · rename_i hf
        rw [if_neg hf] at h
        exact ⟨fun x o z => h.1 _ _ (k0 x o z), h.2.same (wo_sub fun a ha => List.mem_append_right _ ha)⟩
  · have hj : j = dss.length := by omega
    subst hj
    rw [List.drop_length, List.map_nil, forD] at ef
    cases ef
    have : rs.drop dss.length = [] := by rw [← N.len]; exact List.drop_length
    rw [this, List.nil_append] at R2
    exact .inl ⟨⟨_, SqL.of hpl, by rw [List.length_map, N.len]; exact Nat.le_refl _⟩, P U2 σ H R2 F2⟩
end
end L2

namespace Q1
/-- n / d in lowest terms, the same as t / b -/
structure IsQ (n d t b : Int) : Prop where
  pos : 1 ≤ d
  cop : Int.gcd n d = 1
  eq : n * b = t * d
theorem cop_def {a b : Int} : Int.gcd a b = 1 ↔ Nat.Coprime a.natAbs b.natAbs := Iff.rfl
theorem cop_comm {a b : Int} (h : Int.gcd a b = 1) : Int.gcd b a = 1 := by rw [Int.gcd_comm]; exact h
theorem cop_mul {a b c : Int} (h1 : Int.gcd a c = 1) (h2 : Int.gcd b c = 1) : Int.gcd (a * b) c = 1 := by
  rw [cop_def] at *
  rw [Int.natAbs_mul]
  exact Nat.Coprime.mul_left h1 h2
theorem cop_mul' {a b c : Int} (h1 : Int.gcd a b = 1) (h2 : Int.gcd a c = 1) : Int.gcd a (b * c) = 1 := cop_comm (cop_mul (cop_comm h1) (cop_comm h2))
theorem cop_dvd {a b c : Int} (h : Int.gcd b c = 1) (d : a ∣ b) : Int.gcd a c = 1 := by
  rw [cop_def] at *
  exact Nat.Coprime.coprime_dvd_left (Int.natAbs_dvd_natAbs.mpr d) h
theorem cop_dvd' {a b c : Int} (h : Int.gcd c b = 1) (d : a ∣ b) : Int.gcd c a = 1 := cop_comm (cop_dvd (cop_comm h) d)
theorem dvd_of_cop {a b c : Int} (h : Int.gcd a b = 1) (d : a ∣ b * c) : a ∣ c := by
  rw [cop_def] at h
  rw [← Int.natAbs_dvd_natAbs] at *
  rw [Int.natAbs_mul] at d
  exact Nat.Coprime.dvd_of_dvd_mul_left h d
theorem IsQ.dvd_top {n d t b : Int} (h : IsQ n d t b) : n ∣ t := dvd_of_cop h.cop ⟨b, by rw [h.eq]; exact Int.mul_comm _ _⟩
theorem IsQ.dvd_bot {n d t b : Int} (h : IsQ n d t b) : d ∣ b := dvd_of_cop (cop_comm h.cop) ⟨t, by rw [h.eq]; exact Int.mul_comm _ _⟩
theorem natAbs_le_of_dvd {a b : Int} (h : a ∣ b) (hb : b ≠ 0) : a.natAbs ≤ b.natAbs := Nat.le_of_dvd (by omega) (Int.natAbs_dvd_natAbs.mpr h)
theorem IsQ.top_le {n d t b : Int} (h : IsQ n d t b) (hb : b ≠ 0) : n.natAbs ≤ t.natAbs := by
  by_cases ht : t = 0
  · have e := h.eq
    rw [ht, Int.zero_mul] at e
    rcases Int.mul_eq_zero.mp e with z | z
    · rw [z, ht]; exact Nat.le_refl _
    · exact absurd z hb
  · exact natAbs_le_of_dvd h.dvd_top ht
theorem IsQ.bot_le {n d t b : Int} (h : IsQ n d t b) (hb : b ≠ 0) : d.natAbs ≤ b.natAbs := natAbs_le_of_dvd h.dvd_bot hb
theorem IsQ.uniq {n d n' d' t b : Int} (h : IsQ n d t b) (h' : IsQ n' d' t b) (hb : b ≠ 0) : n = n' ∧ d = d' := by
  have e : n * d' = n' * d := by
    have e1 := h.eq
    have e2 := h'.eq
    have : b * (n * d') = b * (n' * d) := by grind
    exact Int.eq_of_mul_eq_mul_left hb this
  have hd : d = d' := by
    have a1 : d ∣ d' := dvd_of_cop (cop_comm h.cop) ⟨n', by rw [e]; exact Int.mul_comm _ _⟩
    have a2 : d' ∣ d := dvd_of_cop (cop_comm h'.cop) ⟨n, by rw [← e]; exact Int.mul_comm _ _⟩
    have p := h.pos
    have p' := h'.pos
    have b1 := natAbs_le_of_dvd a1 (by omega)
    have b2 := natAbs_le_of_dvd a2 (by omega)
    omega
  subst hd
  have p := h.pos
  exact ⟨Int.eq_of_mul_eq_mul_right (by omega) e, rfl⟩
theorem gcd_facts {t b : Int} (hb : b ≠ 0) : ∃ t' b' : Int, 0 < (Int.gcd t b : Int) ∧ t = t' * (Int.gcd t b : Int) ∧ b = b' * (Int.gcd t b : Int) ∧ Int.gcd t' b' = 1 := by
  have hp : 0 < Int.gcd t b := Int.gcd_pos_of_ne_zero_right _ hb
  refine ⟨t / (Int.gcd t b : Int), b / (Int.gcd t b : Int), by omega, (Int.ediv_mul_cancel (Int.gcd_dvd_left _ _)).symm, (Int.ediv_mul_cancel (Int.gcd_dvd_right _ _)).symm, Int.gcd_ediv_gcd_ediv_gcd hp⟩
/-- the sign goes with the bottom -/
def dv (t b : Int) : Int := if b < 0 then -(Int.gcd t b : Int) else (Int.gcd t b : Int)
theorem dv_ne {t b : Int} (hb : b ≠ 0) : dv t b ≠ 0 := by
  have hp : 0 < Int.gcd t b := Int.gcd_pos_of_ne_zero_right _ hb
  unfold dv; split <;> omega
theorem frac_ok {t b : Int} (hb : b ≠ 0) : IsQ (t.fdiv (dv t b)) (b.fdiv (dv t b)) t b := by
  obtain ⟨t', b', hp, et, eb, c⟩ := gcd_facts (t := t) hb
  unfold dv
  generalize (Int.gcd t b : Int) = g at *
  subst et eb
  by_cases hs : b' * g < 0
  · rw [if_pos hs]
    have e1 : (t' * g).fdiv (-g) = -t' := by
      have : t' * g = (-t') * (-g) := by grind
      rw [this]; exact Int.mul_fdiv_cancel _ (by omega)
    have e2 : (b' * g).fdiv (-g) = -b' := by
      have : b' * g = (-b') * (-g) := by grind
      rw [this]; exact Int.mul_fdiv_cancel _ (by omega)
    rw [e1, e2]
    have hb' : b' < 0 := by
      rcases Int.lt_trichotomy b' 0 with z | z | z
      · exact z
      · subst z; simp at hb
      · have := Int.mul_pos z hp; omega
    refine ⟨by omega, ?_, by grind⟩
    rw [Int.neg_gcd, Int.gcd_neg]; exact c
  · rw [if_neg hs]
    rw [Int.mul_fdiv_cancel _ (by omega), Int.mul_fdiv_cancel _ (by omega)]
    have hb' : 0 < b' := by
      rcases Int.lt_trichotomy b' 0 with z | z | z
      · exact absurd (Int.mul_neg_of_neg_of_pos z hp) hs
      · subst z; simp at hb
      · exact z
    exact ⟨by omega, c, by grind⟩
theorem times_ok {n1 d1 n2 d2 l0 l1 r0 r1 : Int} (h1 : Int.gcd n1 d1 = 1) (h2 : Int.gcd n2 d2 = 1) (hl : IsQ l0 l1 n1 d2) (hr : IsQ r0 r1 n2 d1) : IsQ (l0 * r0) (l1 * r1) (n1 * n2) (d1 * d2) := by
  have p1 := hl.pos
  have p2 := hr.pos
  have e1 := hl.eq
  have e2 := hr.eq
  refine ⟨?_, cop_mul (cop_mul' hl.cop ?_) (cop_mul' ?_ hr.cop), ?_⟩
  · have := Int.mul_pos (show 0 < l1 by omega) (show 0 < r1 by omega); omega
  · exact cop_dvd (cop_dvd' h1 hr.dvd_bot) hl.dvd_top
  · exact cop_dvd (cop_dvd' h2 hl.dvd_bot) hr.dvd_top
  · grind
theorem gcd_add_mul {a b c p : Int} (h : Int.gcd (a * b) p = 1) : Int.gcd (a * b + c * p) p = 1 := by
  rw [Int.gcd_add_mul_right_left]
  exact h
theorem plus_ok {n1 d1 n2 d2 g p1 p2 r0 r1 : Int} (h1 : Int.gcd n1 d1 = 1) (h2 : Int.gcd n2 d2 = 1) (hd1 : 1 ≤ d1) (hd2 : 1 ≤ d2) (hg : 0 < g) (e1 : d1 = p1 * g) (e2 : d2 = p2 * g) (hc : Int.gcd p1 p2 = 1) (hr : IsQ r0 r1 (n1 * p2 + n2 * p1) g) :
    IsQ r0 (p1 * p2 * r1) (n1 * d2 + n2 * d1) (d1 * d2) := by
  have p := hr.pos
  have q1 : 0 < p1 := by
    rcases Int.lt_trichotomy p1 0 with z | z | z
    · have := Int.mul_neg_of_neg_of_pos z hg; omega
    · subst z; simp at e1; omega
    · exact z
  have q2 : 0 < p2 := by
    rcases Int.lt_trichotomy p2 0 with z | z | z
    · have := Int.mul_neg_of_neg_of_pos z hg; omega
    · subst z; simp at e2; omega
    · exact z
  have c1 : Int.gcd n1 p1 = 1 := cop_dvd' h1 ⟨g, e1⟩
  have c2 : Int.gcd n2 p2 = 1 := cop_dvd' h2 ⟨g, e2⟩
  have t1 : Int.gcd (n1 * p2 + n2 * p1) p1 = 1 := gcd_add_mul (cop_mul c1 (cop_comm hc))
  have t2 : Int.gcd (n1 * p2 + n2 * p1) p2 = 1 := by rw [Int.add_comm]; exact gcd_add_mul (cop_mul c2 hc)
  refine ⟨?_, ?_, ?_⟩
  · have a := Int.mul_pos q1 q2
    have b := Int.mul_pos a (show 0 < r1 by omega)
    omega
  · exact cop_mul' (cop_dvd (cop_mul' t1 t2) hr.dvd_top) hr.cop
  · have e := hr.eq
    subst e1 e2
    grind
theorem pow_ok {n d : Int} (h : Int.gcd n d = 1) (m : Nat) : Int.gcd (n ^ m) (d ^ m) = 1 := by
  rw [cop_def] at *
  rw [Int.natAbs_pow, Int.natAbs_pow]
  exact Nat.Coprime.pow m m h
/-- one step of Euclid's walk -/
theorem gcd_step {a b : Int} : Int.gcd b (a % b) = Int.gcd a b := by
  have e : a = a % b + (a / b) * b := by have := Int.emod_add_ediv_mul a b; omega
  have h : Int.gcd (a % b + (a / b) * b) b = Int.gcd (a % b) b := Int.gcd_add_mul_right_left ..
  rw [← e] at h
  rw [h, Int.gcd_comm]
end Q1

namespace Q1
/-- the fraction of two numbers -/
def qmk (t b : Int) : Int × Int := (t.fdiv (dv t b), b.fdiv (dv t b))
theorem qmk_ok {t b : Int} (hb : b ≠ 0) : IsQ (qmk t b).1 (qmk t b).2 t b := frac_ok hb
theorem IsQ.qm {n d t b : Int} (h : IsQ n d t b) (hb : b ≠ 0) : (n, d) = qmk t b := by
  obtain ⟨a, c⟩ := h.uniq (qmk_ok hb) hb
  exact Prod.ext a c
abbrev Qz : Int × Int := (0, 1)
theorem qmk_zero {t b : Int} (hb : b ≠ 0) : qmk t b = Qz ↔ t = 0 := by
  constructor
  · intro h
    have e := (qmk_ok (t := t) hb).eq
    rw [h] at e
    simpa using e.symm
  · rintro rfl
    exact ((⟨by decide, by decide, by simp⟩ : IsQ 0 1 0 b).qm hb).symm
/-- without the noughts at the end -/
def trim (l : List (Int × Int)) : List (Int × Int) := (l.reverse.dropWhile (fun q => decide (q = Qz))).reverse
theorem trim_nil : trim [] = [] := rfl
theorem trim_z (l : List (Int × Int)) : trim (l ++ [Qz]) = trim l := by
  unfold trim
  rw [List.reverse_append]
  simp
theorem trim_x (l : List (Int × Int)) {q : Int × Int} (h : q ≠ Qz) : trim (l ++ [q]) = l ++ [q] := by
  unfold trim
  rw [List.reverse_append]
  simp [h]
theorem snoc_cases (l : List (Int × Int)) : l = [] ∨ ∃ m q, l = m ++ [q] := by
  rcases List.eq_nil_or_concat l with h | ⟨m, q, h⟩
  · exact .inl h
  · exact .inr ⟨m, q, by rw [h]; simp⟩
theorem trim_last (l : List (Int × Int)) (h : ∀ q, l[l.length - 1]? = some q → q ≠ Qz) : trim l = l := by
  rcases snoc_cases l with rfl | ⟨m, q, rfl⟩
  · rfl
  · exact trim_x m (h q (by simp))
theorem trim_take (l : List (Int × Int)) : ∃ k, k ≤ l.length ∧ trim l = l.take k := by
  suffices h : ∀ n, ∀ l : List (Int × Int), l.length = n → ∃ k, k ≤ l.length ∧ trim l = l.take k from h _ l rfl
  intro n
  induction n with
  | zero => intro l h; exact ⟨0, by omega, by rw [List.eq_nil_of_length_eq_zero h]; rfl⟩
  | succ n ih =>
    intro l h
    rcases snoc_cases l with rfl | ⟨m, q, rfl⟩
    · simp at h
    · by_cases hq : q = Qz
      · subst hq
        obtain ⟨k, h1, h2⟩ := ih m (by simpa using h)
        refine ⟨k, by simp; omega, ?_⟩
        rw [trim_z, h2, List.take_append_of_le_length h1]
      · exact ⟨n + 1, by omega, by rw [trim_x m hq, List.take_of_length_le (by omega)]⟩
theorem trim_len (l : List (Int × Int)) : (trim l).length ≤ l.length := by
  obtain ⟨k, h1, h2⟩ := trim_take l
  rw [h2, List.length_take]; omega
theorem trim_mem {l : List (Int × Int)} {q : Int × Int} (h : q ∈ trim l) : q ∈ l := by
  obtain ⟨k, h1, h2⟩ := trim_take l
  rw [h2] at h
  exact List.mem_of_mem_take h
theorem trim_trim (l : List (Int × Int)) : trim (trim l) = trim l := by
  suffices h : ∀ n, ∀ l : List (Int × Int), l.length = n → trim (trim l) = trim l from h _ l rfl
  intro n
  induction n with
  | zero => intro l h; rw [List.eq_nil_of_length_eq_zero h]; rfl
  | succ n ih =>
    intro l h
    rcases snoc_cases l with rfl | ⟨m, q, rfl⟩
    · rfl
    · by_cases hq : q = Qz
      · subst hq
        rw [trim_z]
        exact ih m (by simpa using h)
      · rw [trim_x m hq, trim_x m hq]
/-! ### polynomials -/
def qadd (a b : Int × Int) : Int × Int := qmk (a.1 * b.2 + b.1 * a.2) (a.2 * b.2)
def qmul (a b : Int × Int) : Int × Int := qmk (a.1 * b.1) (a.2 * b.2)
def at0 (l : List (Int × Int)) (k : Nat) : Int × Int := l.getD k Qz
def padd (l m : List (Int × Int)) : List (Int × Int) := trim ((List.range (max l.length m.length)).map fun k => qadd (at0 l k) (at0 m k))
def pscale (l : List (Int × Int)) (q : Int × Int) : List (Int × Int) := trim (l.map fun a => qmul a q)
def pless (l m : List (Int × Int)) : List (Int × Int) := padd l (pscale m (-1, 1))
/-- in lowest terms -/
def Low (q : Int × Int) : Prop := 1 ≤ q.2 ∧ Int.gcd q.1 q.2 = 1
def Lows (l : List (Int × Int)) : Prop := ∀ q ∈ l, Low q
theorem low_z : Low Qz := ⟨by decide, by decide⟩
theorem low_at {l : List (Int × Int)} (h : Lows l) (k : Nat) : Low (at0 l k) := by
  unfold at0
  rw [List.getD_eq_getElem?_getD]
  cases e : l[k]? with
  | none => exact low_z
  | some q => exact h q (List.mem_of_getElem? e)
theorem low_mk {t b : Int} (hb : b ≠ 0) : Low (qmk t b) := ⟨(qmk_ok hb).pos, (qmk_ok hb).cop⟩
theorem low_add {a b : Int × Int} (ha : Low a) (hb : Low b) : Low (qadd a b) := low_mk (Int.mul_ne_zero (by have := ha.1; omega) (by have := hb.1; omega))
theorem low_mul {a b : Int × Int} (ha : Low a) (hb : Low b) : Low (qmul a b) := low_mk (Int.mul_ne_zero (by have := ha.1; omega) (by have := hb.1; omega))
theorem low_self {q : Int × Int} (h : Low q) : qmk q.1 q.2 = q := ((⟨h.1, h.2, rfl⟩ : IsQ q.1 q.2 q.1 q.2).qm (by have := h.1; omega)).symm
theorem qmk_same {t b t' b' : Int} (hb : b ≠ 0) (hb' : b' ≠ 0) (h : t * b' = t' * b) : qmk t b = qmk t' b' := by
  have q := qmk_ok (t := t) hb
  refine (IsQ.qm (n := (qmk t b).1) (d := (qmk t b).2) ⟨q.pos, q.cop, ?_⟩ hb')
  have e := q.eq
  refine Int.eq_of_mul_eq_mul_left hb ?_
  grind
theorem qadd_z (a : Int × Int) (h : Low a) : qadd a Qz = a := by
  unfold qadd
  have : qmk (a.1 * 1 + 0 * a.2) (a.2 * 1) = qmk a.1 a.2 := by simp
  rw [this, low_self h]
theorem qz_add (a : Int × Int) (h : Low a) : qadd Qz a = a := by
  unfold qadd
  have : qmk (0 * a.2 + a.1 * 1) (1 * a.2) = qmk a.1 a.2 := by simp
  rw [this, low_self h]
theorem qneg (a : Int × Int) (h : Low a) : qmul a (-1, 1) = (-a.1, a.2) := by
  unfold qmul
  refine ((⟨h.1, by rw [Int.neg_gcd]; exact h.2, by simp⟩ : IsQ (-a.1) a.2 (a.1 * -1) (a.2 * 1)).qm ?_).symm
  have := h.1
  simp; omega
theorem qone (a : Int × Int) (h : Low a) : qmul a (1, 1) = a := by
  unfold qmul
  have : qmk (a.1 * 1) (a.2 * 1) = qmk a.1 a.2 := by simp
  rw [this, low_self h]
theorem qnought (a : Int × Int) (h : Low a) : qmul a Qz = Qz := by
  unfold qmul
  rw [qmk_zero (by have := h.1; simp; omega)]
  simp
theorem trim_zs : ∀ {l : List (Int × Int)}, (∀ q ∈ l, q = Qz) → trim l = [] := by
  intro l
  suffices h : ∀ n, ∀ l : List (Int × Int), l.length = n → (∀ q ∈ l, q = Qz) → trim l = [] from h _ l rfl
  intro n
  induction n with
  | zero => intro l h _; rw [List.eq_nil_of_length_eq_zero h]; rfl
  | succ n ih =>
    intro l h hz
    rcases snoc_cases l with rfl | ⟨m, q, rfl⟩
    · rfl
    · have : q = Qz := hz q (by simp)
      subst this
      rw [trim_z]
      exact ih m (by simpa using h) fun q hq => hz q (by simp [hq])
theorem map_at0 (l : List (Int × Int)) : (List.range l.length).map (at0 l) = l := by
  apply List.ext_getElem?
  intro i
  rw [List.getElem?_map]
  by_cases hi : i < l.length
  · rw [List.getElem?_range hi, List.getElem?_eq_getElem hi]
    simp [at0, List.getD_eq_getElem?_getD, List.getElem?_eq_getElem hi]
  · rw [List.getElem?_eq_none (by simpa using hi), List.getElem?_eq_none (by omega)]
    rfl
theorem at0_nil (k : Nat) : at0 [] k = Qz := by simp [at0]
theorem padd_nil_right {l : List (Int × Int)} (h : Lows l) (ht : trim l = l) : padd l [] = l := by
  unfold padd
  have e : (fun k => qadd (at0 l k) (at0 [] k)) = at0 l := by
    funext k
    rw [at0_nil, qadd_z _ (low_at h k)]
  rw [e, List.length_nil, Nat.max_zero, map_at0, ht]
theorem padd_nil_left {l : List (Int × Int)} (h : Lows l) (ht : trim l = l) : padd [] l = l := by
  unfold padd
  have e : (fun k => qadd (at0 [] k) (at0 l k)) = at0 l := by
    funext k
    rw [at0_nil, qz_add _ (low_at h k)]
  rw [e, List.length_nil, Nat.zero_max, map_at0, ht]
theorem neg_ne {q : Int × Int} (h : q ≠ Qz) (hl : Low q) : ((-q.1, q.2) : Int × Int) ≠ Qz := by
  intro e
  apply h
  have e1 : -q.1 = 0 := congrArg Prod.fst e
  have e2 : q.2 = 1 := congrArg Prod.snd e
  exact Prod.ext (by show q.1 = 0; omega) e2
theorem map_neg {l : List (Int × Int)} (h : Lows l) : l.map (fun a => qmul a (-1, 1)) = l.map fun a => (-a.1, a.2) := List.map_congr_left fun a ha => qneg a (h a ha)
theorem trim_neg {l : List (Int × Int)} (h : Lows l) (ht : trim l = l) : trim (l.map fun a => (-a.1, a.2)) = l.map fun a => (-a.1, a.2) := by
  rcases snoc_cases l with rfl | ⟨m, q, rfl⟩
  · rfl
  · by_cases hq : q = Qz
    · exfalso
      rw [hq, trim_z] at ht
      have := trim_len m
      rw [ht] at this
      simp at this
      omega
    · rw [List.map_append, List.map_cons, List.map_nil]
      exact trim_x _ (neg_ne hq (h q (by simp)))
theorem pscale_neg {l : List (Int × Int)} (h : Lows l) (ht : trim l = l) : pscale l (-1, 1) = l.map fun a => (-a.1, a.2) := by
  unfold pscale
  rw [map_neg h, trim_neg h ht]
theorem lows_neg {l : List (Int × Int)} (h : Lows l) : Lows (l.map fun a => (-a.1, a.2)) := by
  intro q hq
  obtain ⟨a, ha, rfl⟩ := List.mem_map.mp hq
  exact ⟨(h a ha).1, by show Int.gcd (-a.1) a.2 = 1; rw [Int.neg_gcd]; exact (h a ha).2⟩
theorem pless_left {l : List (Int × Int)} (h : Lows l) (ht : trim l = l) : pless [] l = l.map fun a => (-a.1, a.2) := by
  unfold pless
  rw [pscale_neg h ht, padd_nil_left (lows_neg h) (trim_neg h ht)]
theorem pscale_nil (q : Int × Int) : pscale [] q = [] := rfl
theorem pless_right {l : List (Int × Int)} (h : Lows l) (ht : trim l = l) : pless l [] = l := by
  unfold pless
  rw [pscale_nil, padd_nil_right h ht]
theorem at0_map (f : Int × Int → Int × Int) (hf : f Qz = Qz) (l : List (Int × Int)) (k : Nat) : at0 (l.map f) k = f (at0 l k) := by
  unfold at0
  rw [List.getD_eq_getElem?_getD, List.getD_eq_getElem?_getD, List.getElem?_map]
  cases l[k]? with
  | none => exact hf.symm
  | some q => rfl
theorem pless_self {l : List (Int × Int)} (h : Lows l) (ht : trim l = l) : pless l l = [] := by
  unfold pless
  rw [pscale_neg h ht]
  unfold padd
  apply trim_zs
  intro q hq
  obtain ⟨k, hk, rfl⟩ := List.mem_map.mp hq
  rw [at0_map (fun a => (-a.1, a.2)) rfl]
  have hl := low_at h k
  generalize at0 l k = a at hl
  unfold qadd
  rw [qmk_zero (Int.mul_ne_zero (by have := hl.1; omega) (by have := hl.1; show a.2 ≠ 0; omega))]
  show a.1 * a.2 + -a.1 * a.2 = 0
  grind
theorem pscale_one {l : List (Int × Int)} (h : Lows l) (ht : trim l = l) : pscale l (1, 1) = l := by
  unfold pscale
  have : l.map (fun a => qmul a (1, 1)) = l := by
    conv => rhs; rw [← List.map_id l]
    exact List.map_congr_left fun a ha => qone a (h a ha)
  rw [this, ht]
theorem pscale_nought {l : List (Int × Int)} (h : Lows l) : pscale l (0, 1) = [] := by
  unfold pscale
  apply trim_zs
  intro q hq
  obtain ⟨a, ha, rfl⟩ := List.mem_map.mp hq
  exact qnought a (h a ha)
theorem lows_trim {l : List (Int × Int)} (h : Lows l) : Lows (trim l) := fun q hq => h q (trim_mem hq)
end Q1

namespace Q1
/-! ### fractions as rationals -/
def qv (q : Int × Int) : Rat := (q.1 : Rat) / (q.2 : Rat)
theorem ne_cast {b : Int} (h : b ≠ 0) : (b : Rat) ≠ 0 := by exact_mod_cast h
theorem IsQ.val {n d t b : Int} (h : IsQ n d t b) (hb : b ≠ 0) : (n : Rat) / d = (t : Rat) / b := by
  have hd : (d : Rat) ≠ 0 := ne_cast (by have := h.pos; omega)
  have hb' := ne_cast hb
  have e : (n : Rat) * b = t * d := by exact_mod_cast h.eq
  grind
theorem IsQ.of_val {n d t b : Int} (hp : 1 ≤ d) (hc : Int.gcd n d = 1) (hb : b ≠ 0) (h : (n : Rat) / d = (t : Rat) / b) : IsQ n d t b := by
  refine ⟨hp, hc, ?_⟩
  have hd : (d : Rat) ≠ 0 := ne_cast (by omega)
  have hb' := ne_cast hb
  have e : (n : Rat) * b = t * d := by grind
  exact_mod_cast e
/-- the same two fractions in lowest terms -/
theorem low_val {a b : Int × Int} (ha : Low a) (hb : Low b) (h : qv a = qv b) : a = b := by
  have hz : b.2 ≠ 0 := by have := hb.1; omega
  have e := (IsQ.of_val (n := a.1) (d := a.2) (t := b.1) (b := b.2) ha.1 ha.2 hz h).qm hz
  rw [low_self hb] at e
  exact e
/-! ### worth -/
def pval : List (Int × Int) → Rat → Rat
  | [], _ => 0
  | a :: l, x => qv a + x * pval l x
theorem pval_snoc (l : List (Int × Int)) (a : Int × Int) (x : Rat) : pval (l ++ [a]) x = pval l x + qv a * x ^ l.length := by
  induction l with
  | nil => simp [pval]; grind
  | cons b l ih =>
    rw [List.cons_append, pval, ih, pval, List.length_cons, Rat.pow_succ]
    grind
/-- the tops over one bottom, from behind -/
def wT (s0 s1 : Int) : List Int → Int
  | [] => 0
  | t :: l => wT s0 s1 l * s0 + t * s1 ^ l.length
theorem wT_val {s0 s1 : Int} (h1 : s1 ≠ 0) {B : Int} (hB : B ≠ 0) : ∀ l : List (Int × Int), (∀ a ∈ l, a.2 ≠ 0 ∧ a.2 ∣ B) →
    ((wT s0 s1 (l.map fun a => a.1 * (B / a.2)) : Int) : Rat) * s1 = pval l ((s0 : Rat) / s1) * B * (s1 : Rat) ^ l.length
  | [], _ => by simp [wT, pval]
  | a :: l, h => by
    have ih := wT_val (s0 := s0) h1 hB l fun b hb => h b (List.mem_cons_of_mem _ hb)
    obtain ⟨h2, k, hk⟩ := h a List.mem_cons_self
    have hs := ne_cast h1
    have ha := ne_cast h2
    have e : B / a.2 = k := by rw [hk]; exact Int.mul_ediv_cancel_left _ h2
    have hk' : (B : Rat) = a.2 * k := by exact_mod_cast hk
    rw [List.map_cons, wT, e, List.length_map, List.length_cons, Rat.pow_succ, pval]
    push_cast
    unfold qv
    have hd : (a.1 : Rat) / a.2 * B = a.1 * k := by rw [hk']; grind
    grind
theorem pow_ne {x : Rat} (h : x ≠ 0) : ∀ n : Nat, x ^ n ≠ 0
  | 0 => by rw [Rat.pow_zero]; decide
  | n + 1 => by
    rw [Rat.pow_succ]
    intro z
    rcases Rat.mul_eq_zero.mp z with q | q
    · exact pow_ne h n q
    · exact h q
theorem div_pow' (a : Rat) {b : Rat} (h : b ≠ 0) : ∀ n : Nat, (a / b) ^ n = a ^ n / b ^ n
  | 0 => by rw [Rat.pow_zero, Rat.pow_zero, Rat.pow_zero]; grind
  | n + 1 => by
    have := pow_ne h n
    rw [Rat.pow_succ, Rat.pow_succ, Rat.pow_succ, div_pow' a h n]
    grind
/-! ### the product of the bottoms -/
def pbI : List (Int × Int) → Int
  | [] => 1
  | a :: l => a.2 * pbI l
theorem pbI_snoc (l : List (Int × Int)) (a : Int × Int) : pbI (l ++ [a]) = pbI l * a.2 := by
  induction l with
  | nil => simp [pbI]
  | cons b l ih => rw [List.cons_append, pbI, ih, pbI, Int.mul_assoc]
theorem due_dvd {n d N M t b a1 a2 p q2 n' d' e : Int} (h : n * M = N * d) (hM : M = p * q2) (ht : t = n * a2 * q2 + a1 * d) (hb : b = d * a2 * q2) (hq : IsQ n' d' t b) (hb0 : b ≠ 0) :
    n' * (M * a2 * e) = (N * a2 * e + a1 * p * e) * d' := by
  have h1 := hq.eq
  refine Int.eq_of_mul_eq_mul_left hb0 ?_
  subst ht hb hM
  grind
end Q1

namespace Q1
/-! ### sums -/
def sumN : Nat → (Nat → Int) → Int
  | 0, _ => 0
  | n + 1, f => sumN n f + f n
theorem sumN_congr {n : Nat} {f g : Nat → Int} (h : ∀ i, i < n → f i = g i) : sumN n f = sumN n g := by
  induction n with
  | zero => rfl
  | succ n ih => rw [sumN, sumN, ih fun i hi => h i (by omega), h n (by omega)]
theorem sumN_zero {n : Nat} : sumN n (fun _ => 0) = 0 := by
  induction n with
  | zero => rfl
  | succ n ih => rw [sumN, ih]; rfl
theorem sumN_z {n : Nat} {f : Nat → Int} (h : ∀ i, i < n → f i = 0) : sumN n f = 0 := by rw [sumN_congr h, sumN_zero]
theorem sumN_add {n : Nat} {f g : Nat → Int} : sumN n (fun i => f i + g i) = sumN n f + sumN n g := by
  induction n with
  | zero => rfl
  | succ n ih => rw [sumN, sumN, sumN, ih]; omega
theorem sumN_comm (n m : Nat) (f : Nat → Nat → Int) : sumN n (fun i => sumN m (fun j => f i j)) = sumN m (fun j => sumN n (fun i => f i j)) := by
  induction n with
  | zero => rw [sumN]; exact (sumN_z fun _ _ => rfl).symm
  | succ n ih =>
    rw [sumN, ih, ← sumN_add]
    rfl
theorem sumN_single {n k : Nat} {f : Nat → Int} (hk : k < n) (h : ∀ i, i < n → i ≠ k → f i = 0) : sumN n f = f k := by
  induction n with
  | zero => omega
  | succ n ih =>
    rw [sumN]
    by_cases e : k = n
    · subst e
      rw [sumN_z fun i hi => h i (by omega) (by omega)]; omega
    · rw [ih (by omega) fun i hi hne => h i (by omega) hne, h n (by omega) (by omega)]; omega
theorem sumN_abs {n M : Nat} {f : Nat → Int} (h : ∀ i, i < n → (f i).natAbs ≤ M) : (sumN n f).natAbs ≤ n * M := by
  induction n with
  | zero => simp [sumN]
  | succ n ih =>
    have a := ih fun i hi => h i (by omega)
    have b := h n (by omega)
    rw [sumN, Nat.succ_mul]
    omega
/-- the whole numbers of a product -/
def cf (xs ys : List Int) (k : Nat) : Int := sumN xs.length fun i => sumN ys.length fun j => if i + j = k then xs.getD i 0 * ys.getD j 0 else 0
theorem cf_comm (xs ys : List Int) (k : Nat) : cf xs ys k = cf ys xs k := by
  unfold cf
  rw [sumN_comm]
  refine sumN_congr fun j _ => sumN_congr fun i _ => ?_
  rw [Nat.add_comm i j, Int.mul_comm]
theorem cf_one (xs : List Int) (k : Nat) : cf xs [1] k = xs.getD k 0 := by
  unfold cf
  have e : ∀ i, (sumN [(1 : Int)].length fun j => if i + j = k then xs.getD i 0 * [(1 : Int)].getD j 0 else 0) = if i = k then xs.getD i 0 else 0 := by
    intro i
    show sumN 1 _ = _
    rw [sumN, sumN]
    simp
  rw [sumN_congr fun i _ => e i]
  by_cases hk : k < xs.length
  · rw [sumN_single hk fun i _ hne => if_neg hne, if_pos rfl]
  · rw [sumN_z fun i hi => if_neg (by omega)]
    simp [List.getD_eq_getElem?_getD, List.getElem?_eq_none (show xs.length ≤ k by omega)]
theorem cf_abs {xs ys : List Int} {M N : Nat} (hx : ∀ x ∈ xs, x.natAbs ≤ M) (hy : ∀ y ∈ ys, y.natAbs ≤ N) (k : Nat) : (cf xs ys k).natAbs ≤ xs.length * (ys.length * (M * N)) := by
  have gx : ∀ i, (xs.getD i 0).natAbs ≤ M := fun i => by
    rw [List.getD_eq_getElem?_getD]
    cases e : xs[i]? with
    | none => simp
    | some x => exact hx x (List.mem_of_getElem? e)
  have gy : ∀ i, (ys.getD i 0).natAbs ≤ N := fun i => by
    rw [List.getD_eq_getElem?_getD]
    cases e : ys[i]? with
    | none => simp
    | some x => exact hy x (List.mem_of_getElem? e)
  unfold cf
  refine sumN_abs fun i _ => sumN_abs fun j _ => ?_
  split
  · rw [Int.natAbs_mul]; exact Nat.mul_le_mul (gx i) (gy j)
  · simp
/-- a list of whole numbers by places -/
def tab (n : Nat) (T : Nat → Int) : List Int := (List.range n).map T
theorem tab_set {n p : Nat} {T : Nat → Int} {v : Int} : (tab n T).set p v = tab n fun k => if p = k then v else T k := by
  unfold tab
  apply List.ext_getElem?
  intro i
  by_cases hi : i < n
  · by_cases e : p = i
    · subst e
      rw [List.getElem?_set_self (by simpa using hi), List.getElem?_map, List.getElem?_range hi]; simp
    · rw [List.getElem?_set_ne e, List.getElem?_map, List.getElem?_map, List.getElem?_range hi]; simp [e]
  · rw [List.getElem?_eq_none (by simpa using hi), List.getElem?_eq_none (by simpa using hi)]
theorem tab_get {n p : Nat} {T : Nat → Int} (h : p < n) : (tab n T)[p]? = some (T p) := by
  unfold tab; rw [List.getElem?_map, List.getElem?_range h]; rfl
theorem tab_len {n : Nat} {T : Nat → Int} : (tab n T).length = n := by unfold tab; simp
theorem tab_congr {n : Nat} {T S : Nat → Int} (h : ∀ k, k < n → T k = S k) : tab n T = tab n S := List.map_congr_left fun k hk => h k (List.mem_range.mp hk)
/-! ### the least common bottom -/
def lcmL : List (Int × Int) → Nat → Nat
  | [], B => B
  | q :: l, B => lcmL l (Nat.lcm B q.2.natAbs)
theorem lcmL_dvd : ∀ (l : List (Int × Int)) (B : Nat), B ∣ lcmL l B ∧ ∀ q ∈ l, q.2 ∣ (lcmL l B : Int)
  | [], B => ⟨Nat.dvd_refl B, fun q hq => by simp at hq⟩
  | a :: l, B => by
    obtain ⟨h1, h2⟩ := lcmL_dvd l (Nat.lcm B a.2.natAbs)
    refine ⟨Nat.dvd_trans (Nat.dvd_lcm_left _ _) h1, fun q hq => ?_⟩
    rcases List.mem_cons.mp hq with z | z
    · subst z
      have : q.2.natAbs ∣ lcmL l (Nat.lcm B q.2.natAbs) := Nat.dvd_trans (Nat.dvd_lcm_right _ _) h1
      rw [← Int.natAbs_dvd]
      exact Int.natCast_dvd_natCast.mpr this
    · exact h2 q z
theorem lcmL_pos : ∀ (l : List (Int × Int)) (B : Nat), 0 < B → (∀ q ∈ l, q.2 ≠ 0) → 0 < lcmL l B
  | [], _, h, _ => h
  | a :: l, B, h, hq => lcmL_pos l _ (Nat.lcm_pos h (by have := hq a List.mem_cons_self; omega)) fun q z => hq q (List.mem_cons_of_mem _ z)
theorem lcmL_le {M : Nat} (hM : 1 ≤ M) : ∀ (l : List (Int × Int)) (B : Nat), (∀ q ∈ l, q.2.natAbs ≤ M) → lcmL l B ≤ B * M ^ l.length
  | [], B, _ => by simp [lcmL]
  | a :: l, B, h => by
    have ih := lcmL_le hM l (Nat.lcm B a.2.natAbs) fun q z => h q (List.mem_cons_of_mem _ z)
    rw [lcmL, List.length_cons, Nat.pow_succ]
    refine Nat.le_trans ih ?_
    have h1 : Nat.lcm B a.2.natAbs ≤ B * M := Nat.le_trans (Nat.div_le_self _ _) (Nat.mul_le_mul_left _ (h a List.mem_cons_self))
    calc Nat.lcm B a.2.natAbs * M ^ l.length ≤ (B * M) * M ^ l.length := Nat.mul_le_mul_right _ h1
      _ = B * (M ^ l.length * M) := by rw [Nat.mul_assoc, Nat.mul_comm M]
theorem lcmL_app (l m : List (Int × Int)) (B : Nat) : lcmL (l ++ m) B = lcmL m (lcmL l B) := by
  induction l generalizing B with
  | nil => rfl
  | cons a l ih => rw [List.cons_append, lcmL, ih, lcmL]
/-- the tops over a bottom -/
def topsB (l : List (Int × Int)) (B : Nat) : List Int := l.map fun q => q.1 * ((B : Int) / q.2)
/-- the product -/
def pmul (l m : List (Int × Int)) : List (Int × Int) := trim ((List.range (l.length + m.length)).map fun k => qmk (cf (topsB l (lcmL l 1)) (topsB m (lcmL m 1)) k) ((lcmL l 1 : Int) * (lcmL m 1 : Int)))
theorem pmul_comm (l m : List (Int × Int)) : pmul l m = pmul m l := by
  unfold pmul
  rw [Nat.add_comm, Int.mul_comm]
  congr 1
  exact List.map_congr_left fun k _ => by rw [cf_comm]
theorem top_val {q : Int × Int} {B : Nat} (hB : 0 < B) (hl : Low q) (hd : q.2 ∣ (B : Int)) : qmk (q.1 * ((B : Int) / q.2)) (B : Int) = q := by
  have h2 : q.2 ≠ 0 := by have := hl.1; omega
  obtain ⟨k, hk⟩ := hd
  rw [hk, Int.mul_ediv_cancel_left _ h2]
  have hk0 : k ≠ 0 := by rintro rfl; simp at hk; omega
  conv => rhs; rw [← low_self hl]
  refine qmk_same (Int.mul_ne_zero h2 hk0) h2 ?_
  grind
theorem pmul_one {l : List (Int × Int)} (hl : Lows l) (ht : trim l = l) : pmul l [(1, 1)] = l := by
  have hB : 0 < lcmL l 1 := lcmL_pos l 1 (by decide) fun q hq => by have := (hl q hq).1; omega
  have hd := (lcmL_dvd l 1).2
  have e1 : lcmL [((1 : Int), (1 : Int))] 1 = 1 := by decide
  have e2 : topsB [((1 : Int), (1 : Int))] 1 = [1] := by decide
  unfold pmul
  rw [e1, e2]
  show trim ((List.range (l.length + 1)).map _) = l
  rw [List.range_succ, List.map_append, List.map_cons, List.map_nil]
  have hz : qmk (cf (topsB l (lcmL l 1)) [1] l.length) ((lcmL l 1 : Int) * ((1 : Nat) : Int)) = Qz := by
    rw [cf_one, qmk_zero (by simp; omega)]
    unfold topsB
    simp [List.getD_eq_getElem?_getD]
  rw [hz, trim_z]
  have : (List.range l.length).map (fun k => qmk (cf (topsB l (lcmL l 1)) [1] k) ((lcmL l 1 : Int) * ((1 : Nat) : Int))) = l := by
    apply List.ext_getElem?
    intro i
    by_cases hi : i < l.length
    · rw [List.getElem?_map, List.getElem?_range hi, List.getElem?_eq_getElem hi]
      have hq := List.getElem_mem hi
      simp only [Option.map_some]
      congr 1
      rw [cf_one]
      have : (topsB l (lcmL l 1)).getD i 0 = l[i].1 * ((lcmL l 1 : Int) / l[i].2) := by
        unfold topsB
        rw [List.getD_eq_getElem?_getD, List.getElem?_map, List.getElem?_eq_getElem hi]; rfl
      rw [this]
      simp only [Int.natCast_one, Int.mul_one]
      exact top_val hB (hl _ hq) (hd _ hq)
    · rw [List.getElem?_eq_none (by simpa using hi), List.getElem?_eq_none (by omega)]
  rw [this, ht]
theorem pmul_nil {l : List (Int × Int)} (hl : Lows l) : pmul [] l = [] := by
  have hB : 0 < lcmL l 1 := lcmL_pos l 1 (by decide) fun q hq => by have := (hl q hq).1; omega
  unfold pmul
  apply trim_zs
  intro q hq
  obtain ⟨k, hk, rfl⟩ := List.mem_map.mp hq
  rw [qmk_zero (by show ((1 : Nat) : Int) * _ ≠ 0; omega)]
  rfl
end Q1

namespace MyLaw
open PySem L2 Q1
abbrev bt (x : Int) : Nat := Builtin.Int.intBits x
theorem bt_of {m : Nat} {x : Int} (h : x.natAbs < 2 ^ m) : bt x ≤ m := intBits_le_iff.mpr h
theorem bt_lt {m : Nat} {x : Int} (h : bt x ≤ m) : x.natAbs < 2 ^ m := intBits_le_iff.mp h
theorem bt_mul {m n : Nat} {x y : Int} (h1 : bt x ≤ m) (h2 : bt y ≤ n) : bt (x * y) ≤ m + n := intBits_mul_le h1 h2
theorem bt_add {m : Nat} {x y : Int} (h1 : bt x ≤ m) (h2 : bt y ≤ m) : bt (x + y) ≤ m + 1 := by
  have := intBits_add_le h1 h2
  rw [Nat.max_self] at this
  exact this
theorem bt_sub {m : Nat} {x y : Int} (h1 : bt x ≤ m) (h2 : bt y ≤ m) : bt (x - y) ≤ m + 1 := by
  have := intBits_sub_le h1 h2
  rw [Nat.max_self] at this
  exact this
theorem bt_neg {m : Nat} {x : Int} (h : bt x ≤ m) : bt (-x) ≤ m := intBits_neg_le h
theorem bt_le {m : Nat} {x y : Int} (h : x.natAbs ≤ y.natAbs) (hy : bt y ≤ m) : bt x ≤ m := intBits_le_of_natAbs h hy
theorem bt_up {m n : Nat} {x : Int} (h : bt x ≤ m) (h2 : m ≤ n) : bt x ≤ n := Nat.le_trans h h2
theorem bt_pow {m : Nat} {x : Int} (h : bt x ≤ m) (k : Nat) : bt (x ^ k) ≤ m * k + 1 := by
  have := intBits_pow_le h k
  omega
theorem mulOk {m n : Nat} {x y : Int} (h1 : bt x ≤ m) (h2 : bt y ≤ n) (h : m + n ≤ 134217728 := by omega) : IntMulOk x y := IntMulOk.of_le h1 h2 h
theorem abs_nat (i : Int) : (if i < 0 then -i else i) = (i.natAbs : Nat) := by split <;> omega
/-! ### operations with their sizes known -/
theorem d_mul {a b : Int} (h : IntMulOk a b) : dMulI (.int a) (.int b) = some (.int (a * b)) := dIc_ok h
theorem d_mod {a b : Int} (h : 0 < b) : dMod (.int a) (.int b) = some (.int (a % b)) := by
  rw [← Int.fmod_eq_emod_of_nonneg _ (Int.le_of_lt h)]
  exact dIc_ok (C := fun _ j => j ≠ 0) (by omega)
theorem d_div {a b : Int} (h : 0 < b) (hb : bt b ≤ 9000) : dDiv (.int a) (.int b) = some (.int (a / b)) := by
  rw [← Int.fdiv_eq_ediv_of_nonneg _ (Int.le_of_lt h)]
  exact dIc_ok (C := CDivS) ⟨by omega, nopy_bits hb⟩
theorem d_divS {a b : Int} (h : b ≠ 0) (hb : bt b ≤ 9000) : dDiv (.int a) (.int b) = some (.int (a.fdiv b)) := dIc_ok (C := CDivS) ⟨h, nopy_bits hb⟩
theorem d_pow {a : Int} {k : Nat} (h : a.natAbs < 2 ^ 64) (hk : k ≤ 1000000) : dPow (.int a) (.int k) = some (.int (a ^ k)) := by
  have := dIc_ok (C := CPow) (g := fun i j => .int (i ^ j.toNat)) (a := a) (b := k) ⟨by omega, by omega, h⟩
  simpa using this
theorem bt_lit {b : Int} (h : b.natAbs < 2 ^ 9000) : bt b ≤ 9000 := bt_of h
theorem atI_get' {α : Type} {xs : List α} {k : Nat} {x : α} (h : xs[k]? = some x) : atI xs (k : Int) = some x := atI_nat h
theorem atI0 {α : Type} {x : α} {xs : List α} : atI (x :: xs) 0 = some x := atI_nat (j := 0) rfl
theorem atI1 {α : Type} {x y : α} {xs : List α} : atI (x :: y :: xs) 1 = some y := atI_nat (j := 1) rfl
theorem atIlast {α : Type} {xs : List α} {x : α} (h : xs[xs.length - 1]? = some x) : atI xs (-1) = some x := atI_neg1 h
/-! ### blocks and loops -/
def Gets {β : Type} (x : Option β) (P : β → Prop) : Prop := ∃ d, x = some d ∧ P d
theorem of_gets {β : Type} {x : Option β} {d : β} (h : Gets x fun y => y = d) : x = some d := by
  obtain ⟨y, e, rfl⟩ := h; exact e
theorem Gets.mk {β : Type} {x : Option β} {P : β → Prop} {d : β} (e : x = some d) (h : P d) : Gets x P := ⟨d, e, h⟩
theorem Gets.imp {β : Type} {x : Option β} {P Q : β → Prop} (h : Gets x P) (f : ∀ d, P d → Q d) : Gets x Q := let ⟨d, e, p⟩ := h; ⟨d, e, f d p⟩
theorem gSeq_of {a b : DS → Option Res} {δ δ' : DS} (h : a δ = some (.nx δ')) : gSeq a b δ = b δ' := by
  unfold gSeq; rw [h]; rfl
theorem gSeq_rt {a b : DS → Option Res} {δ : DS} {d : D} (h : a δ = some (.rt d)) : gSeq a b δ = some (.rt d) := by
  unfold gSeq; rw [h]; rfl
theorem gWhile_inv {c : DS → Option Bool} {b : DS → Option Res} (W : Nat → DS → Prop) (Z : DS → Prop) (m : Nat) {δ : DS} (h : W m δ)
    (hs : ∀ m δ, W m δ → (c δ = some false ∧ Z δ) ∨ (c δ = some true ∧ ∃ δ' m', b δ = some (.nx δ') ∧ m' < m ∧ W m' δ')) : ∃ δ', gWhile c b δ = some (.nx δ') ∧ Z δ' := by
  obtain ⟨q, h1, δ', rfl, h2⟩ := gWhile_by W (fun _ q => ∃ δ', q = .nx δ' ∧ Z δ') m δ h (fun m δ hW => by
    rcases hs m δ hW with ⟨a, z⟩ | ⟨a, δ', m', e, l, w⟩
    · exact .inl ⟨a, δ, rfl, z⟩
    · exact .inr ⟨a, .inl ⟨δ', m', .inl e, l, w, fun q hq => hq⟩⟩)
  exact ⟨δ', h1, h2⟩
theorem forD_inv {t : D → DS → Option DS} {b : DS → Option Res} (W : Nat → DS → Prop) : ∀ (ds : List D) (k : Nat) {δ : DS}, W k δ → (∀ i d δ, ds[i]? = some d → W (k + i) δ → ∃ δ1 δ', t d δ = some δ1 ∧ b δ1 = some (.nx δ') ∧ W (k + i + 1) δ') →
    ∃ δ', forD t b ds δ = some (.nx δ') ∧ W (k + ds.length) δ'
  | [], k, δ, h, _ => ⟨δ, rfl, h⟩
  | d :: ds, k, δ, h, hs => by
    obtain ⟨δ1, δ', e1, e2, h'⟩ := hs 0 d δ rfl h
    obtain ⟨δ2, e3, h2⟩ := forD_inv W ds (k + 1) h' (fun i d δ e w => by
      have := hs (i + 1) d δ (by simpa using e) (by rw [show k + (i + 1) = k + 1 + i by omega]; exact w)
      rw [show k + (i + 1) + 1 = k + 1 + i + 1 by omega] at this
      exact this)
    refine ⟨δ2, ?_, by rw [List.length_cons, show k + (ds.length + 1) = k + 1 + ds.length by omega]; exact h2⟩
    rw [forD, e1, Option.bind_some, e2, Option.bind_some]
    exact e3
/-- a loop that goes through, over things of a type of one's own -/
theorem for_inv {α : Type} {t : D → DS → Option DS} {b : DS → Option Res} (enc : α → D) (W : Nat → DS → Prop) (xs : List α) {δ : DS} (h : W 0 δ)
    (hs : ∀ i x δ, xs[i]? = some x → W i δ → ∃ δ1 δ', t (enc x) δ = some δ1 ∧ b δ1 = some (.nx δ') ∧ W (i + 1) δ') : ∃ δ', forD t b (xs.map enc) δ = some (.nx δ') ∧ W xs.length δ' := by
  obtain ⟨δ', e, w⟩ := forD_inv (t := t) (b := b) W (xs.map enc) 0 h (fun i d δ e w => by
    rw [List.getElem?_map] at e
    cases ex : xs[i]? with
    | none => rw [ex] at e; cases e
    | some x =>
      rw [ex] at e; cases e
      rw [Nat.zero_add] at w ⊢
      exact hs i x δ ex w)
  rw [Nat.zero_add, List.length_map] at w
  exact ⟨δ', e, w⟩
/-- a loop over a range that goes through -/
theorem forR_inv {t : D → DS → Option DS} {b : DS → Option Res} {lo : Int} {n : Nat} (W : Nat → DS → Prop) {δ : DS} (h : W 0 δ)
    (hs : ∀ i δ, i < n → W i δ → ∃ δ1 δ', t (.int (lo + i)) δ = some δ1 ∧ b δ1 = some (.nx δ') ∧ W (i + 1) δ') : ∃ δ', forD t b (rangeD lo n) δ = some (.nx δ') ∧ W n δ' := by
  obtain ⟨δ', e, w⟩ := for_inv (t := t) (b := b) (fun k : Nat => PyData.int (lo + k)) W (List.range n) h (fun i x δ e w => by
    have hi := (List.getElem?_eq_some_iff.mp e).1
    rw [List.length_range] at hi
    rw [List.getElem?_range hi] at e
    cases e
    exact hs i δ hi w)
  rw [List.length_range] at w
  exact ⟨δ', e, w⟩
theorem seq_while {c : DS → Option Bool} {b rest : DS → Option Res} {β : Type} {f : Res → Option β} {R : β → Prop} {δ : DS} (W : Nat → DS → Prop) (Z : DS → Prop) (m : Nat) (h : W m δ)
    (hs : ∀ m δ, W m δ → (c δ = some false ∧ Z δ) ∨ (c δ = some true ∧ ∃ δ' m', b δ = some (.nx δ') ∧ m' < m ∧ W m' δ')) (k : ∀ δ', Z δ' → Gets ((rest δ').bind f) R) : Gets ((gSeq (gWhile c b) rest δ).bind f) R := by
  obtain ⟨δ', h1, h2⟩ := gWhile_inv W Z m h hs
  rw [gSeq_of h1]
  exact k δ' h2
theorem seq_for {α : Type} {t : D → DS → Option DS} {gi : DS → Option (List D)} {b rest : DS → Option Res} {β : Type} {f : Res → Option β} {R : β → Prop} {δ : DS} (enc : α → D) (xs : List α) (W : Nat → DS → Prop) (hi : gi δ = some (xs.map enc)) (h : W 0 δ)
    (hs : ∀ i x δ, xs[i]? = some x → W i δ → ∃ δ1 δ', t (enc x) δ = some δ1 ∧ b δ1 = some (.nx δ') ∧ W (i + 1) δ') (k : ∀ δ', W xs.length δ' → Gets ((rest δ').bind f) R) : Gets ((gSeq (gFor gi t b) rest δ).bind f) R := by
  obtain ⟨δ', h1, h2⟩ := for_inv (t := t) (b := b) enc W xs h hs
  rw [gSeq_of (δ' := δ') (by unfold gFor; rw [hi]; exact h1)]
  exact k δ' h2
theorem seq_forR {t : D → DS → Option DS} {gi : DS → Option (List D)} {b rest : DS → Option Res} {β : Type} {f : Res → Option β} {R : β → Prop} {δ : DS} (lo : Int) (n : Nat) (W : Nat → DS → Prop) (hi : gi δ = some (rangeD lo n)) (h : W 0 δ)
    (hs : ∀ i δ, i < n → W i δ → ∃ δ1 δ', t (.int (lo + i)) δ = some δ1 ∧ b δ1 = some (.nx δ') ∧ W (i + 1) δ') (k : ∀ δ', W n δ' → Gets ((rest δ').bind f) R) : Gets ((gSeq (gFor gi t b) rest δ).bind f) R := by
  obtain ⟨δ', h1, h2⟩ := forR_inv (t := t) (b := b) W h hs
  rw [gSeq_of (δ' := δ') (by unfold gFor; rw [hi]; exact h1)]
  exact k δ' h2
/-- one statement that goes through -/
theorem seq_st {a rest : DS → Option Res} {β : Type} {f : Res → Option β} {R : β → Prop} {δ : DS} (δ' : DS) (h : a δ = some (.nx δ')) (k : Gets ((rest δ').bind f) R) : Gets ((gSeq a rest δ).bind f) R := by
  rw [gSeq_of h]; exact k
/-- an if that is passed by -/
theorem seq_no {c : DS → Option Bool} {a rest : DS → Option Res} {β : Type} {f : Res → Option β} {R : β → Prop} {δ : DS} (h : c δ = some false) (k : Gets ((rest δ).bind f) R) : Gets ((gSeq (gIf c a gSkip) rest δ).bind f) R := by
  rw [gSeq_of (δ' := δ) (by unfold gIf; rw [h]; rfl)]; exact k
theorem seq_iff {c : DS → Option Bool} {a b rest : DS → Option Res} {β : Type} {f : Res → Option β} {R : β → Prop} {δ : DS} (x : Bool) (h : c δ = some x) (k1 : x = true → Gets ((gSeq a rest δ).bind f) R) (k2 : x = false → Gets ((gSeq b rest δ).bind f) R) : Gets ((gSeq (gIf c a b) rest δ).bind f) R := by
  have e : gIf c a b δ = if x = true then a δ else b δ := by unfold gIf; rw [h]; rfl
  cases x with
  | true => rw [if_pos rfl] at e; have := k1 rfl; unfold gSeq at this ⊢; rw [e]; exact this
  | false => rw [if_neg Bool.false_ne_true] at e; have := k2 rfl; unfold gSeq at this ⊢; rw [e]; exact this
theorem seq_ret {g : DS → Option D} {rest : DS → Option Res} {β : Type} {f : Res → Option β} {R : β → Prop} {δ : DS} (d : D) (h : g δ = some d) (k : Gets (f (.rt d)) R) : Gets ((gSeq (gRet g) rest δ).bind f) R := by
  rw [gSeq_rt (d := d) (by unfold gRet; rw [h]; rfl)]; exact k
theorem ret {g : DS → Option D} {β : Type} {f : Res → Option β} {R : β → Prop} {δ : DS} (d : D) (h : g δ = some d) (k : Gets (f (.rt d)) R) : Gets ((gRet g δ).bind f) R := by
  unfold gRet; rw [h]; exact k
theorem st_seq {a b : DS → Option Res} {δ : DS} {r : Option Res} (δ' : DS) (h : a δ = some (.nx δ')) (k : b δ' = r) : gSeq a b δ = r := (gSeq_of h).trans k
theorem st_no {c : DS → Option Bool} {a : DS → Option Res} {δ : DS} (h : c δ = some false) : gIf c a gSkip δ = some (.nx δ) := by unfold gIf; rw [h]; rfl
theorem seq_skip {rest : DS → Option Res} {δ : DS} : gSeq gSkip rest δ = rest δ := rfl
theorem seq_assoc {a b c : DS → Option Res} {δ : DS} : gSeq (gSeq a b) c δ = gSeq a (gSeq b c) δ := by
  unfold gSeq
  cases a δ with
  | none => rfl
  | some r => cases r <;> rfl
theorem mapD_of {α β : Type} {f : D → Option D} (enc : α → D) (enc' : β → D) (h : α → β) : ∀ (l : List α), (∀ a ∈ l, f (enc a) = some (enc' (h a))) → mapD f (l.map enc) = some ((l.map h).map enc')
  | [], _ => rfl
  | a :: l, hf => by
    rw [List.map_cons, mapD, hf a List.mem_cons_self, Option.bind_some, mapD_of enc enc' h l fun b hb => hf b (List.mem_cons_of_mem _ hb)]
    rfl
theorem mapD_ex {α β : Type} {f : D → Option D} (enc : α → D) (enc' : β → D) (G : α → β → Prop) : ∀ (l : List α), (∀ a ∈ l, ∃ b, f (enc a) = some (enc' b) ∧ G a b) → ∃ m : List β, mapD f (l.map enc) = some (m.map enc') ∧ m.length = l.length ∧ ∀ b ∈ m, ∃ a ∈ l, G a b
  | [], _ => ⟨[], rfl, rfl, fun b hb => by simp at hb⟩
  | a :: l, hf => by
    obtain ⟨b, e, g⟩ := hf a List.mem_cons_self
    obtain ⟨m, e2, hl, hg⟩ := mapD_ex enc enc' G l fun b hb => hf b (List.mem_cons_of_mem _ hb)
    refine ⟨b :: m, ?_, by simp [hl], fun c hc => ?_⟩
    · rw [List.map_cons, mapD, e, Option.bind_some, e2]; rfl
    · rcases List.mem_cons.mp hc with z | z
      · subst z; exact ⟨a, List.mem_cons_self, g⟩
      · obtain ⟨a', h1, h2⟩ := hg c z
        exact ⟨a', List.mem_cons_of_mem _ h1, h2⟩
theorem comp_of {α β : Type} (enc : α → D) (enc' : β → D) (h : α → β) {gi : DS → Option (List D)} {ix : List Nat} {ge : DS → Option D} {δ : DS} (l : List α) (hi : gi δ = some (l.map enc)) (hn : l.length ≤ 100000)
    (hf : ∀ a ∈ l, ge (some (enc a) :: captD ix δ) = some (enc' (h a))) : gComp gi ix ge δ = some ((l.map h).map enc') := by
  unfold gComp
  rw [hi, Option.bind_some, if_pos (by rw [List.length_map]; exact hn)]
  exact mapD_of enc enc' h l hf
theorem comp_ex {α β : Type} (enc : α → D) (enc' : β → D) (G : α → β → Prop) {gi : DS → Option (List D)} {ix : List Nat} {ge : DS → Option D} {δ : DS} (l : List α) (hi : gi δ = some (l.map enc)) (hn : l.length ≤ 100000)
    (hf : ∀ a ∈ l, ∃ b, ge (some (enc a) :: captD ix δ) = some (enc' b) ∧ G a b) : ∃ m : List β, gComp gi ix ge δ = some (m.map enc') ∧ m.length = l.length ∧ ∀ b ∈ m, ∃ a ∈ l, G a b := by
  obtain ⟨m, e, h1, h2⟩ := mapD_ex (f := fun d => ge (some d :: captD ix δ)) enc enc' G l hf
  refine ⟨m, ?_, h1, h2⟩
  unfold gComp
  rw [hi, Option.bind_some, if_pos (by rw [List.length_map]; exact hn)]
  exact e
theorem cutD_map {α : Type} (enc : α → D) (l : List α) (lo hi : Option Int) : ∃ m : List α, cutD (l.map enc) lo hi = m.map enc ∧ m.length ≤ l.length ∧ ∀ a ∈ m, a ∈ l := by
  unfold cutD
  refine ⟨(l.drop _).take _, by rw [List.map_take, List.map_drop, List.length_map], ?_, fun a h => List.mem_of_mem_drop (List.mem_of_mem_take h)⟩
  rw [List.length_take, List.length_drop]; omega
theorem cut_nat {α : Type} (enc : α → D) (l : List α) (a b : Nat) : ∃ m : List α, cutD (l.map enc) (some (a : Int)) (some (b : Int)) = m.map enc ∧ m.length ≤ b - a ∧ m.length ≤ l.length := by
  unfold cutD
  refine ⟨(l.drop _).take _, by rw [List.map_take, List.map_drop, List.length_map], ?_, ?_⟩
  · rw [List.length_take, HT.sIx_nat, HT.sIx_nat]; omega
  · rw [List.length_take, List.length_drop]; omega
theorem eq_dF (a b : Fr2) : dEq (dF a) (dF b) = some (.bool (decide (a = b))) := by
  show (if (SeqAt.shaped (dF a) && SeqAt.shaped (dF b)) = true then some (PyData.bool (PyData.eqv (dF a) (dF b))) else none) = _
  rw [sh_dF, sh_dF, eqv_dF]; rfl
theorem eq_dP (a b : List Fr2) : dEq (dP a) (dP b) = some (.bool (decide (a = b))) := by
  show (if (SeqAt.shaped (dP a) && SeqAt.shaped (dP b)) = true then some (PyData.bool (PyData.eqv (dP a) (dP b))) else none) = _
  rw [sh_dP, sh_dP, eqv_dP]; rfl
theorem isi_i_i (i : Int) : dIsi "int" [.int i] = some (.bool true) := rfl
theorem isi_i_b (i : Int) : dIsi "bool" [.int i] = some (.bool false) := rfl
theorem isi_t_t (l : List D) : dIsi "tuple" [.tuple l] = some (.bool true) := rfl
theorem isi_l_l (l : List D) : dIsi "list" [.list l] = some (.bool true) := rfl
theorem isi_b_b (i : Bool) : dIsi "bool" [.bool i] = some (.bool true) := rfl
theorem isi_s_s (i : Str) : dIsi "str" [.str i] = some (.bool true) := rfl
theorem dEq_ii (a b : Int) : dEq (.int a) (.int b) = some (.bool (decide (a = b))) := rfl
theorem dNe_ii (a b : Int) : dNe (.int a) (.int b) = some (.bool (!decide (a = b))) := rfl
theorem dNe_of {a b : D} {c : Bool} (h : dEq a b = some (.bool c)) : dNe a b = some (.bool (!c)) := by unfold dNe; rw [h]; rfl
theorem repN_of {ga : DS → Option (List D)} {gb : DS → Option D} {δ : DS} {ds : List D} {n : Nat} (h1 : ga δ = some ds) (h2 : gb δ = some (.int (n : Nat))) (h3 : n ≤ 100000) (h4 : ds.length * n ≤ 100000) : gRepN ga gb δ = some (List.replicate n ds).flatten := by
  unfold gRepN
  rw [h1, h2, Option.bind_some, Option.bind_some]
  show (if ((n : Nat) : Int) < 2 ^ 62 ∧ -(2 ^ 62) < ((n : Nat) : Int) ∧ ds.length * ((n : Nat) : Int).toNat ≤ 100000 then some (List.replicate ((n : Nat) : Int).toNat ds).flatten else none) = _
  rw [Int.toNat_natCast, if_pos ⟨by omega, by omega, h4⟩]
theorem range1_of {g : DS → Option (List D)} {δ : DS} {n : Nat} (h : g δ = some [.int (n : Nat)]) (hn : n ≤ 100000) : gRange1 g δ = some (rangeD 0 n) := by
  unfold gRange1
  rw [h, Option.bind_some]
  show (if -(2 ^ 62) ≤ ((n : Nat) : Int) ∧ ((n : Nat) : Int) < 2 ^ 62 then some (rangeD 0 ((n : Nat) : Int).toNat) else none) = _
  rw [Int.toNat_natCast, if_pos ⟨by omega, by omega⟩]
theorem range2_of {g : DS → Option (List D)} {δ : DS} {a b : Int} (h : g δ = some [.int a, .int b]) (h1 : -100000 ≤ a) (h2 : a ≤ 100000) (h3 : -100000 ≤ b) (h4 : b ≤ 100000) : gRange2 g δ = some (rangeD a (b - a).toNat) := by
  unfold gRange2
  rw [h, Option.bind_some]
  show (if -(2 ^ 62) ≤ a ∧ a < 2 ^ 62 ∧ -(2 ^ 62) ≤ b ∧ b < 2 ^ 62 then some (rangeD a (b - a).toNat) else none) = _
  rw [if_pos ⟨by omega, by omega, by omega, by omega⟩]
theorem call_of {G : List D → Option D} {n : Nat} {g : DS → Option (List D)} {δ : DS} {ds : List D} {r : Option D} (h : g δ = some ds) (hn : ds.length = n) (hG : G ds = r) : gCall G n g δ = r := by
  unfold gCall; rw [h, Option.bind_some, if_pos hn]; exact hG
theorem callN_of {G : List D → Option (List D)} {n : Nat} {g : DS → Option (List D)} {δ : DS} {ds : List D} {r : Option (List D)} (h : g δ = some ds) (hn : ds.length = n) (hG : G ds = r) : gCallN G n g δ = r := by
  unfold gCallN; rw [h, Option.bind_some, if_pos hn]; exact hG
theorem lst_of {g : DS → Option (List D)} {δ : DS} {l : List D} (h : g δ = some l) : gLst g δ = some (.list l) := by unfold gLst; rw [h]; rfl
theorem cons_of {a : DS → Option D} {r : DS → Option (List D)} {δ : DS} {x : D} {xs : List D} (h : a δ = some x) (h2 : r δ = some xs) : gConsA a r δ = some (x :: xs) := by unfold gConsA; rw [h, h2]; rfl
theorem set_of {i : Nat} {g : DS → Option D} {δ : DS} {d : D} (h : g δ = some d) : gSet i g δ = some (.nx (δ.set i (some d))) := by unfold gSet; rw [h]; rfl
theorem setN_of {i : Nat} {g : DS → Option (List D)} {δ : DS} {d : List D} (h : g δ = some d) : gSetN i g δ = some (.nx (δ.set i (some (.list d)))) := by unfold gSetN; rw [h]; rfl
theorem dLen_l (l : List D) : dLen [.list l] = some (.int l.length) := rfl
theorem dLen_t (l : List D) : dLen [.tuple l] = some (.int l.length) := rfl
theorem dLen_P (l : List Fr2) : dLen [dP l] = some (.int (l.length : Nat)) := by unfold dP; rw [dLen_l, List.length_map]
theorem dAdd_ii (a b : Int) : dAdd (.int a) (.int b) = some (.int (a + b)) := rfl
theorem dIx_l (l : List D) (i : Int) : dIx (.list l) (.int i) = atI l i := rfl
theorem dIx_t (l : List D) (i : Int) : dIx (.tuple l) (.int i) = atI l i := rfl
theorem dIx_P (l : List Fr2) (i : Int) : dIx (dP l) (.int i) = atI (l.map dF) i := rfl
theorem dIx_F0 (q : Fr2) : dIx (dF q) (.int 0) = some (.int q.1) := rfl
theorem dIx_F1 (q : Fr2) : dIx (dF q) (.int 1) = some (.int q.2) := rfl
theorem dCat_ll (a b : List D) : dCat (.list a) (.list b) = if a.length + b.length ≤ 100000 then some (a ++ b) else none := rfl
theorem dAdd_ll (a b : List D) : dAdd (.list a) (.list b) = if a.length + b.length ≤ 100000 then some (.list (a ++ b)) else none := rfl
theorem or_of {a b : DS → Option Bool} {δ : DS} {r : Option Bool} (h1 : a δ = some false) (h2 : b δ = r) : gOr a b δ = r := by unfold gOr; rw [h1]; exact h2
theorem and_of {a b : DS → Option Bool} {δ : DS} {r : Option Bool} (h1 : a δ = some true) (h2 : b δ = r) : gAnd a b δ = r := by unfold gAnd; rw [h1]; exact h2
theorem not_of' {a : DS → Option Bool} {δ : DS} {x : Bool} (h : a δ = some x) : gNot a δ = some (!x) := by unfold gNot; rw [h]; rfl
theorem gB_of {g : DS → Option D} {δ : DS} {b : Bool} (h : g δ = some (.bool b)) : gB g δ = some b := by unfold gB; rw [h]; rfl
theorem gTru_of {g : DS → Option D} {δ : DS} {b : Bool} (h : g δ = some (.bool b)) : gTru g δ = some b := by unfold gTru; rw [h]; rfl
theorem g2_of {f : D → D → Option D} {a b : DS → Option D} {δ : DS} {x y : D} {r : Option D} (h1 : a δ = some x) (h2 : b δ = some y) (h3 : f x y = r) : g2 f a b δ = r := by unfold g2; rw [h1, h2]; exact h3
theorem andV_of {a b : DS → Option D} {δ : DS} {r : Option D} (h1 : a δ = some (.bool true)) (h2 : b δ = r) : gAndV a b δ = r := by unfold gAndV; rw [gB_of h1]; exact h2
theorem chain_of {f f' : D → D → Option D} {a b c : DS → Option D} {δ : DS} {x y z : D} {r : Option D} (h1 : a δ = some x) (h2 : b δ = some y) (h3 : f x y = some (.bool true)) (h4 : c δ = some z) (h5 : f' y z = r) : gChain f f' a b c δ = r := by
  unfold gChain; rw [h1, h2, Option.bind_some, Option.bind_some, h3, Option.bind_some, h4]; exact h5
theorem bind_if {α β : Type} {c : Prop} [Decidable c] {a b : Option α} {f : α → Option β} : (if c then a else b).bind f = if c then a.bind f else b.bind f := by split <;> rfl
end MyLaw

namespace MyLaw
open PySem L2 Q1
noncomputable abbrev g_greatest_divisor : DS → Option Res := (gSeq (gSet 0 (gB1 dAbs (gConsA (gVar 0) gNilA)))
    (gSeq (gSet 1 (gB1 dAbs (gConsA (gVar 1) gNilA)))
    (gSeq (gWhile (gB (g2 dNe (gVar 1) (gC (.int (0))))) (gSeq (gSet 2 (g2 dMod (gVar 0) (gVar 1)))
    (gSeq (gSet 0 (gVar 1))
    (gSeq (gSet 1 (gVar 2))
    (gIf (gB (g2 dGt (g1 dBits (gVar 1)) (gC (.int (4000))))) (fun _ => none) gSkip)))))
    (gRet (gVar 0)))))
noncomputable def G_greatest_divisor : List D → Option D := gDef 4 g_greatest_divisor
theorem E_greatest_divisor (a0 a1 : D) : G_greatest_divisor [a0, a1] = (g_greatest_divisor [some a0, some a1, none, none]).bind gOut := rfl
noncomputable abbrev g_frac : DS → Option Res := (gSeq (gIf (gB (g2 dEq (gVar 1) (gC (.int (0))))) (fun _ => none) gSkip)
    (gSeq (gSet 2 (gCall G_greatest_divisor 2 (gConsA (gVar 0) (gConsA (gVar 1) gNilA))))
    (gSeq (gIf (gB (g2 dLt (gVar 1) (gC (.int (0))))) (gSet 2 (g1 dNeg (gVar 2))) gSkip)
    (gRet (gTupD (gConsA (g2 dDiv (gVar 0) (gVar 2)) (gConsA (g2 dDiv (gVar 1) (gVar 2)) gNilA)))))))
noncomputable def G_frac : List D → Option D := gDef 3 g_frac
theorem E_frac (a0 a1 : D) : G_frac [a0, a1] = (g_frac [some a0, some a1, none]).bind gOut := rfl
-- BY HAND leap
noncomputable abbrev g_common_bottom : DS → Option Res := (gSeq (gSet 1 (gC (.int (1))))
    (gSeq (gFor (gItems (gVar 0)) (gName' 2)
      (gSet 1 (g2 dMulI (g2 dDiv (gVar 1) (gCall G_greatest_divisor 2 (gConsA (gVar 1) (gConsA (g2 dIx (gVar 2) (gC (.int (1)))) gNilA)))) (g2 dIx (gVar 2) (gC (.int (1)))))))
    (gRet (gVar 1))))
noncomputable def G_common_bottom : List D → Option D := gDef 3 g_common_bottom
theorem E_common_bottom (a0 : D) : G_common_bottom [a0] = (g_common_bottom [some a0, none, none]).bind gOut := rfl
noncomputable abbrev g_product_of_tops : DS → Option Res := (gSeq (gSetN 2 (gRepN (gLstN (gConsA (gC (.int (0))) gNilA)) (g2 dAdd (gB1 dLen (gConsA (gVar 0) gNilA)) (gB1 dLen (gConsA (gVar 1) gNilA)))))
    (gSeq (gFor (gEnumerate (gVar 0)) (gTupT 2 (gConsT (gName' 3) (gConsT (gName' 4) gNilT)))
      (gFor (gEnumerate (gVar 1)) (gTupT 2 (gConsT (gName' 5) (gConsT (gName' 6) gNilT)))
      (gAugIx 2 (fun i j => i + j) (g2 dAdd (gVar 3) (gVar 5)) (g2 dMulI (gVar 4) (gVar 6)))))
    (gRet (gVar 2))))
noncomputable def G_product_of_tops : List D → Option (List D) := gDefN 7 g_product_of_tops
theorem E_product_of_tops (a0 a1 : D) : G_product_of_tops [a0, a1] = (g_product_of_tops [some a0, some a1, none, none, none, none, none]).bind gOutN := rfl
noncomputable abbrev g_tops_over : DS → Option Res := (gRet (gLst (gComp (gItems (gVar 0)) [1] (g2 dMulI (g2 dIx (gVar 0) (gC (.int (0)))) (g2 dDiv (gVar 1) (g2 dIx (gVar 0) (gC (.int (1)))))))))
noncomputable def G_tops_over : List D → Option (List D) := gDefN 2 g_tops_over
theorem E_tops_over (a0 a1 : D) : G_tops_over [a0, a1] = (g_tops_over [some a0, some a1]).bind gOutN := rfl
noncomputable abbrev g_trimmed : DS → Option Res := (gSeq (gSetN 1 (gB1N dListN (gConsA (gVar 0) gNilA)))
    (gSeq (gWhile (gAnd (gB (g2 dGt (gB1 dLen (gConsA (gVar 1) gNilA)) (gC (.int (0))))) (gB (g2 dEq (g2 dIx (gVar 1) (g1 dNeg (gC (.int (1))))) (gC (.tuple [(.int (0)), (.int (1))]))))) (gPop 1))
    (gRet (gVar 1))))
noncomputable def G_trimmed : List D → Option (List D) := gDefN 2 g_trimmed
theorem E_trimmed (a0 : D) : G_trimmed [a0] = (g_trimmed [some a0, none]).bind gOutN := rfl
noncomputable abbrev g_product : DS → Option Res := (gSeq (gSet 2 (gCall G_common_bottom 1 (gConsA (gVar 0) gNilA)))
    (gSeq (gSet 3 (gCall G_common_bottom 1 (gConsA (gVar 1) gNilA)))
    (gSeq (gSet 4 (gLst (gCallN G_product_of_tops 2 (gConsA (gLst (gCallN G_tops_over 2 (gConsA (gVar 0) (gConsA (gVar 2) gNilA)))) (gConsA (gLst (gCallN G_tops_over 2 (gConsA (gVar 1) (gConsA (gVar 3) gNilA)))) gNilA)))))
    (gSeq (gSet 5 (g2 dMulI (gVar 2) (gVar 3)))
    (gRet (gLst (gCallN G_trimmed 1 (gConsA (gLst (gComp (gItems (gVar 4)) [5] (gCall G_frac 2 (gConsA (gVar 0) (gConsA (gVar 1) gNilA))))) gNilA))))))))
noncomputable def G_product : List D → Option (List D) := gDefN 6 g_product
theorem E_product (a0 a1 : D) : G_product [a0, a1] = (g_product [some a0, some a1, none, none, none, none]).bind gOutN := rfl
noncomputable abbrev g_law_cell : DS → Option Res := (gSeq (gIf (gB (g2 dLt (gVar 1) (gB1 dLen (gConsA (gVar 0) gNilA)))) (gRet (g2 dIx (gVar 0) (gVar 1))) gSkip)
    (gRet (gC (.int (0)))))
noncomputable def G_law_cell : List D → Option D := gDef 2 g_law_cell
theorem E_law_cell (a0 a1 : D) : G_law_cell [a0, a1] = (g_law_cell [some a0, some a1]).bind gOut := rfl
noncomputable abbrev g_law_whole : DS → Option Res := (gRet (gAndV (gIsi "int" (gVar 0)) (g1 dNot (gIsi "bool" (gVar 0)))))
noncomputable def G_law_whole : List D → Option D := gDef 1 g_law_whole
theorem E_law_whole (a0 : D) : G_law_whole [a0] = (g_law_whole [some a0]).bind gOut := rfl
noncomputable abbrev g_law_divisor : DS → Option Res := (gSeq (gWhile (gB (g2 dNe (gVar 1) (gC (.int (0))))) (gPar 0 1 (gConsA (gVar 1) (gConsA (g2 dMod (gVar 0) (gVar 1)) gNilA))))
    (gRet (gB1 dAbs (gConsA (gVar 0) gNilA))))
noncomputable def G_law_divisor : List D → Option D := gDef 2 g_law_divisor
theorem E_law_divisor (a0 a1 : D) : G_law_divisor [a0, a1] = (g_law_divisor [some a0, some a1]).bind gOut := rfl
noncomputable abbrev g_law_is_frac : DS → Option Res := (gSeq (gIf (gOr (gNot (gTru (gIsi "tuple" (gVar 0)))) (gOr (gB (g2 dNe (gB1 dLen (gConsA (gVar 0) gNilA)) (gC (.int (2))))) (gOr (gNot (gTru (gCall G_law_whole 1 (gConsA (g2 dIx (gVar 0) (gC (.int (0)))) gNilA)))) (gNot (gTru (gCall G_law_whole 1 (gConsA (g2 dIx (gVar 0) (gC (.int (1)))) gNilA))))))) (gRet (gC (.bool false))) gSkip)
    (gSeq (gIf (gOr (gB (g2 dLt (g2 dIx (gVar 0) (gC (.int (1)))) (gC (.int (1))))) (gB (g2 dNe (gCall G_law_divisor 2 (gConsA (g2 dIx (gVar 0) (gC (.int (0)))) (gConsA (g2 dIx (gVar 0) (gC (.int (1)))) gNilA))) (gC (.int (1)))))) (gRet (gC (.bool false))) gSkip)
    (gRet (g2 dEq (g2 dMulI (g2 dIx (gVar 0) (gC (.int (0)))) (gVar 2)) (g2 dMulI (gVar 1) (g2 dIx (gVar 0) (gC (.int (1)))))))))
noncomputable def G_law_is_frac : List D → Option D := gDef 3 g_law_is_frac
theorem E_law_is_frac (a0 a1 a2 : D) : G_law_is_frac [a0, a1, a2] = (g_law_is_frac [some a0, some a1, some a2]).bind gOut := rfl
noncomputable abbrev g_law_made : DS → Option Res := (gSeq (gSet 2 (gCall G_law_divisor 2 (gConsA (gVar 0) (gConsA (gVar 1) gNilA))))
    (gRet (gTupD (gConsA (g2 dDiv (gVar 0) (gVar 2)) (gConsA (g2 dDiv (gVar 1) (gVar 2)) gNilA)))))
noncomputable def G_law_made : List D → Option D := gDef 3 g_law_made
theorem E_law_made (a0 a1 : D) : G_law_made [a0, a1] = (g_law_made [some a0, some a1, none]).bind gOut := rfl
noncomputable abbrev g_law_frac : DS → Option Res := (gSeq (gSet 1 (g2 dMod (gVar 0) (gC (.int (4)))))
    (gSeq (gSet 2 (g2 dDiv (gVar 0) (gC (.int (4)))))
    (gSeq (gIf (gB (g2 dEq (gVar 1) (gC (.int (0))))) (gRet (gCall G_law_made 2 (gConsA (g2 dSub (g2 dMod (gVar 2) (gC (.int (7)))) (gC (.int (3)))) (gConsA (g2 dAdd (gC (.int (1))) (g2 dMod (g2 dDiv (gVar 2) (gC (.int (7)))) (gC (.int (3))))) gNilA)))) gSkip)
    (gSeq (gIf (gB (g2 dEq (gVar 1) (gC (.int (1))))) (gRet (gCall G_law_made 2 (gConsA (g2 dSub (g2 dMod (gVar 2) (g2 dAdd (g2 dMulI (gC (.int (2))) (g2 dPow (gC (.int (10))) (gC (.int (20))))) (gC (.int (1))))) (g2 dPow (gC (.int (10))) (gC (.int (20))))) (gConsA (g2 dAdd (gC (.int (1))) (g2 dMod (g2 dDiv (gVar 2) (g2 dAdd (g2 dMulI (gC (.int (2))) (g2 dPow (gC (.int (10))) (gC (.int (20))))) (gC (.int (1))))) (g2 dPow (gC (.int (10))) (gC (.int (20)))))) gNilA)))) gSkip)
    (gSeq (gIf (gB (g2 dEq (gVar 1) (gC (.int (2))))) (gRet (g2 dIx (gLst (gLstN (gConsA (gTupD (gConsA (gC (.int (0))) (gConsA (gC (.int (1))) gNilA))) (gConsA (gTupD (gConsA (gC (.int (1))) (gConsA (gC (.int (1))) gNilA))) (gConsA (gTupD (gConsA (g1 dNeg (gC (.int (1)))) (gConsA (gC (.int (1))) gNilA))) (gConsA (gTupD (gConsA (gC (.int (1))) (gConsA (gC (.int (2))) gNilA))) gNilA)))))) (g2 dMod (gVar 2) (gC (.int (4)))))) gSkip)
    (gRet (gCall G_law_made 2 (gConsA (g2 dSub (g2 dMod (g2 dAdd (g2 dMulI (gVar 2) (gC (.int (48271)))) (gC (.int (17)))) (gC (.int (2147483647)))) (g2 dPow (gC (.int (10))) (gC (.int (9))))) (gConsA (g2 dAdd (gC (.int (1))) (g2 dMod (g2 dMod (g2 dAdd (g2 dMulI (gVar 2) (gC (.int (16807)))) (gC (.int (5)))) (gC (.int (2147483629)))) (g2 dPow (gC (.int (10))) (gC (.int (6)))))) gNilA)))))))))
noncomputable def G_law_frac : List D → Option D := gDef 3 g_law_frac
theorem E_law_frac (a0 : D) : G_law_frac [a0] = (g_law_frac [some a0, none, none]).bind gOut := rfl
noncomputable abbrev g_law_poly : DS → Option Res := (gSeq (gSetN 1 (gComp (gItems (gVar 0)) [] (gCall G_law_frac 1 (gConsA (gVar 0) gNilA))))
    (gSeq (gWhile (gAnd (gB (g2 dGt (gB1 dLen (gConsA (gVar 1) gNilA)) (gC (.int (0))))) (gB (g2 dEq (g2 dIx (gVar 1) (g1 dNeg (gC (.int (1))))) (gTupD (gConsA (gC (.int (0))) (gConsA (gC (.int (1))) gNilA)))))) (gPop 1))
    (gRet (gVar 1))))
noncomputable def G_law_poly : List D → Option (List D) := gDefN 2 g_law_poly
theorem E_law_poly (a0 : D) : G_law_poly [a0] = (g_law_poly [some a0, none]).bind gOutN := rfl
noncomputable abbrev g_law_is_row : DS → Option Res := (gSeq (gSet 2 (gB1 dLen (gConsA (gVar 1) gNilA)))
    (gSeq (gWhile (gAnd (gB (g2 dGt (gVar 2) (gC (.int (0))))) (gB (g2 dEq (g2 dIx (g2 dIx (gVar 1) (g2 dSub (gVar 2) (gC (.int (1))))) (gC (.int (0)))) (gC (.int (0)))))) (gSet 2 (g2 dSub (gVar 2) (gC (.int (1))))))
    (gSeq (gIf (gOr (gNot (gTru (gIsi "list" (gVar 0)))) (gB (g2 dNe (gB1 dLen (gConsA (gVar 0) gNilA)) (gVar 2)))) (gRet (gC (.bool false))) gSkip)
    (gSeq (gFor (gRange1 (gConsA (gVar 2) gNilA)) (gName' 3)
      (gIf (gNot (gTru (gCall G_law_is_frac 3 (gConsA (g2 dIx (gVar 0) (gVar 3)) (gConsA (g2 dIx (g2 dIx (gVar 1) (gVar 3)) (gC (.int (0)))) (gConsA (g2 dIx (g2 dIx (gVar 1) (gVar 3)) (gC (.int (1)))) gNilA)))))) (gRet (gC (.bool false))) gSkip))
    (gRet (gC (.bool true)))))))
noncomputable def G_law_is_row : List D → Option D := gDef 4 g_law_is_row
theorem E_law_is_row (a0 a1 : D) : G_law_is_row [a0, a1] = (g_law_is_row [some a0, some a1, none, none]).bind gOut := rfl
noncomputable abbrev g_law_common : DS → Option Res := (gSeq (gSet 1 (gC (.int (1))))
    (gSeq (gFor (gItems (gVar 0)) (gName' 2)
      (gSet 1 (g2 dDiv (g2 dMulI (gVar 1) (g2 dIx (gVar 2) (gC (.int (1))))) (gCall G_law_divisor 2 (gConsA (gVar 1) (gConsA (g2 dIx (gVar 2) (gC (.int (1)))) gNilA))))))
    (gRet (gVar 1))))
noncomputable def G_law_common : List D → Option D := gDef 3 g_law_common
theorem E_law_common (a0 : D) : G_law_common [a0] = (g_law_common [some a0, none, none]).bind gOut := rfl
noncomputable abbrev g_law : DS → Option Res := (gSeq (gSet 1 (gLst (gSlL (gVar 0) (gPart (gC (.int (3)))) (gPart (gC (.int (27)))))))
    (gSeq (gSet 2 (g2 dMod (gCall G_law_cell 2 (gConsA (gVar 0) (gConsA (gC (.int (0))) gNilA))) (g2 dAdd (gB1 dLen (gConsA (gVar 1) gNilA)) (gC (.int (1))))))
    (gSeq (gSet 3 (gLst (gCallN G_law_poly 1 (gConsA (gLst (gSlL (gLst (gSlL (gVar 1) gNoPart (gPart (gVar 2)))) gNoPart (gPart (gC (.int (12)))))) gNilA))))
    (gSeq (gSet 4 (gLst (gCallN G_law_poly 1 (gConsA (gLst (gSlL (gLst (gSlL (gVar 1) (gPart (gVar 2)) gNoPart)) gNoPart (gPart (gC (.int (12)))))) gNilA))))
    (gSeq (gSet 5 (gCall G_law_common 1 (gConsA (gVar 3) gNilA)))
    (gSeq (gSet 6 (gCall G_law_common 1 (gConsA (gVar 4) gNilA)))
    (gSeq (gSetN 7 (gComp (gRange1 (gConsA (g2 dAdd (gB1 dLen (gConsA (gVar 3) gNilA)) (gB1 dLen (gConsA (gVar 4) gNilA))) gNilA)) [] (gC (.int (0)))))
    (gSeq (gFor (gRange1 (gConsA (gB1 dLen (gConsA (gVar 3) gNilA)) gNilA)) (gName' 8)
      (gFor (gRange1 (gConsA (gB1 dLen (gConsA (gVar 4) gNilA)) gNilA)) (gName' 9)
      (gSeq (gSet 10 (g2 dMulI (g2 dIx (g2 dIx (gVar 3) (gVar 8)) (gC (.int (0)))) (g2 dDiv (gVar 5) (g2 dIx (g2 dIx (gVar 3) (gVar 8)) (gC (.int (1)))))))
    (gSeq (gSet 11 (g2 dMulI (g2 dIx (g2 dIx (gVar 4) (gVar 9)) (gC (.int (0)))) (g2 dDiv (gVar 6) (g2 dIx (g2 dIx (gVar 4) (gVar 9)) (gC (.int (1)))))))
    (gSetIx 7 (g2 dAdd (gVar 8) (gVar 9)) (g2 dAdd (g2 dIx (gVar 7) (g2 dAdd (gVar 8) (gVar 9))) (g2 dMulI (gVar 10) (gVar 11))))))))
    (gSeq (gSet 12 (gLst (gComp (gItems (gVar 7)) [5, 6] (gTupD (gConsA (gVar 0) (gConsA (g2 dMulI (gVar 1) (gVar 2)) gNilA))))))
    (gSeq (gSet 13 (gLst (gLstN (gConsA (gLst (gB1N dListN (gConsA (gVar 3) gNilA))) (gConsA (gLst (gB1N dListN (gConsA (gVar 4) gNilA))) gNilA)))))
    (gSeq (gSetN 14 (gCallN G_product 2 (gConsA (g2 dIx (gVar 13) (gC (.int (0)))) (gConsA (g2 dIx (gVar 13) (gC (.int (1)))) gNilA))))
    (gSeq (gIf (gOr (gB (g2 dNe (gVar 13) (gLst (gLstN (gConsA (gVar 3) (gConsA (gVar 4) gNilA)))))) (gNot (gTru (gCallSh G_law_is_row 2 (gConsA (gVar 14) (gConsA (gVar 12) gNilA)))))) (gRet (gC (.bool false))) gSkip)
    (gSeq (gSet 15 (gLst (gB1N dListN (gConsA (gVar 14) gNilA))))
    (gSeq (gApp 14 (gTupD (gConsA (gC (.int (7))) (gConsA (gC (.int (1))) gNilA))))
    (gSeq (gSetN 16 (gCallN G_product 2 (gConsA (g2 dIx (gVar 13) (gC (.int (0)))) (gConsA (gLst (gLstN (gConsA (gTupD (gConsA (gC (.int (1))) (gConsA (gC (.int (1))) gNilA))) gNilA))) gNilA))))
    (gSeq (gIf (gOr (gB (g2 dNe (gVar 16) (gVar 3))) (gB (g2 dNe (gLst (gCallN G_product 2 (gConsA (g2 dIx (gVar 13) (gC (.int (0)))) (gConsA (g2 dIx (gVar 13) (gC (.int (1)))) gNilA)))) (gVar 15)))) (gRet (gC (.bool false))) gSkip)
    (gSeq (gClear 16)
    (gRet (gAndV (g2 dEq (gVar 13) (gLst (gLstN (gConsA (gVar 3) (gConsA (gVar 4) gNilA))))) (gAndV (g2 dEq (gLst (gCallN G_product 2 (gConsA (gVar 4) (gConsA (gVar 3) gNilA)))) (gVar 15)) (gChain dEq dEq (gLst (gCallN G_product 2 (gConsA (gLst (gLstN gNilA)) (gConsA (gVar 3) gNilA)))) (gLst (gLstN gNilA)) (gLst (gCallN G_product 2 (gConsA (gVar 4) (gConsA (gLst (gLstN gNilA)) gNilA)))))))))))))))))))))))))
noncomputable def G_law : List D → Option D := gDef 17 g_law
theorem E_law (a0 : D) : G_law [a0] = (g_law [some a0, none, none, none, none, none, none, none, none, none, none, none, none, none, none, none, none]).bind gOut := rfl
end MyLaw
open L2
/-! ### the pure functions, opened -/
local macro_rules | `(tactic| walk_at "pu") => `(tactic| simp only [gSeq, gSkip, gIf, gSet, gSetN, gRet, gDrop, gAsg, gVar, gC, gLst, g2, g2N, g1, gB, gNot, gAnd, gOr, gAndV, gOrV, gIfE, gTru, dTru, gConsA, gNilA, gTupD, gLstN, gCall, gCallN, gCallSh, gCallShN, gB1, gB1N, gPar, gApp, gPop, gSetIx, gAugI, gFor, gItems, gReversed, gSlL, gPart, gNoPart, gChain, gIsi, gName', gTupT, gConsT, gNilT, captD, dI_ok, MyLaw.dLen_l, MyLaw.dLen_t, MyLaw.dLen_P, MyLaw.dAdd_ii, MyLaw.dIx_l, MyLaw.dIx_t, MyLaw.dIx_P, MyLaw.dIx_F0, MyLaw.dIx_F1, MyLaw.dCat_ll, MyLaw.dAdd_ll, dAbs, dMax2, dMin2, dInt, dListN, dTupleOf, dNeg, dNot, MyLaw.isi_i_i, MyLaw.isi_i_b, MyLaw.isi_t_t, MyLaw.isi_l_l, MyLaw.isi_b_b, MyLaw.isi_s_s, MyLaw.atI0, MyLaw.atI1, MyLaw.dEq_ii, MyLaw.dNe_ii, gOut, gOutN, dBits, noL, noLs,
  List.getElem?_cons_zero, List.getElem?_cons_succ, List.set_cons_zero, List.set_cons_succ, List.map_cons, List.map_nil, Option.join_some, Option.bind_some, Option.map_some, List.length_cons, List.length_nil, Option.bind_none, if_true, if_false, decide_eq_true_eq, Bool.not_eq_true', decide_eq_false_iff_not, Bool.not_true, Bool.not_false, reduceIte, Nat.reduceAdd, Nat.reduceLeDiff, Nat.reduceEqDiff, Bool.false_eq_true, Bool.and_true, Bool.and_self, Bool.true_and, Bool.and_false, Bool.or_false, Bool.or_true, Bool.false_or, Bool.true_or])
namespace MyLaw
open PySem L2 Q1
/-! ### helpers of the laws, and the fractions -/
theorem v_law_cell (ns : List Int) (k : Nat) : G_law_cell [.list (ns.map .int), .int k] = some (.int (ns.getD k 0)) := by
  rw [E_law_cell]
  walk_at "pu"
  rw [List.length_map, List.getD_eq_getElem?_getD]
  by_cases h : k < ns.length
  · rw [if_pos (by omega), atI_nat (v := .int ns[k]) (by rw [List.getElem?_map, List.getElem?_eq_getElem h]; rfl), List.getElem?_eq_getElem h]
    rfl
  · rw [if_neg (by omega), List.getElem?_eq_none (by omega)]
    rfl
theorem v_law_whole (i : Int) : G_law_whole [.int i] = some (.bool true) := by
  rw [E_law_whole]
  walk_at "pu"
theorem v_law_divisor (a b : Int) (hb : 0 ≤ b) : G_law_divisor [.int a, .int b] = some (.int (Int.gcd a b : Nat)) := by
  rw [E_law_divisor]
  refine of_gets ?_
  refine seq_while (fun m δ => ∃ x : Int, δ = [some (.int x), some (.int (m : Nat))] ∧ Int.gcd x (m : Int) = Int.gcd a b) (fun δ => ∃ x : Int, δ = [some (.int x), some (.int 0)] ∧ x.natAbs = Int.gcd a b) b.toNat ?_ ?_ ?_
  · exact ⟨a, by rw [Int.toNat_of_nonneg hb], by rw [Int.toNat_of_nonneg hb]⟩
  · rintro m δ ⟨x, rfl, hg⟩
    by_cases hm : m = 0
    · subst hm
      exact .inl ⟨by walk_at "pu"; rfl, x, rfl, by simpa using hg⟩
    · have h1 : 0 ≤ x % (m : Int) := Int.emod_nonneg _ (by omega)
      have h2 : x % (m : Int) < m := Int.emod_lt_of_pos _ (by omega)
      refine .inr ⟨by walk_at "pu"; simp; omega, [some (.int m), some (.int (x % (m : Int)))], (x % (m : Int)).toNat, by walk_at "pu"; rw [d_mod (by omega)]; rfl, by omega, m, by rw [Int.toNat_of_nonneg h1], ?_⟩
      rw [Int.toNat_of_nonneg h1, gcd_step, hg]
  · rintro δ' ⟨x, rfl, h2⟩
    exact ret _ (by walk_at "pu"; rw [abs_nat, h2]) (.mk rfl rfl)
theorem v_gcd (a b : Int) (hb : bt b ≤ 4000) : G_greatest_divisor [.int a, .int b] = some (.int (Int.gcd a b : Nat)) := by
  rw [E_greatest_divisor]
  refine of_gets ?_
  refine seq_st [some (.int (a.natAbs : Nat)), some (.int b), none, none] (by walk_at "pu"; rw [abs_nat]) ?_
  refine seq_st [some (.int (a.natAbs : Nat)), some (.int (b.natAbs : Nat)), none, none] (by walk_at "pu"; rw [abs_nat]) ?_
  refine seq_while (fun m δ => ∃ (x : Nat) (r p : Option D), δ = [some (.int (x : Nat)), some (.int (m : Nat)), r, p] ∧ bt (m : Int) ≤ 4000 ∧ Nat.gcd x m = Int.gcd a b) (fun δ => ∃ (x : Nat) (r p : Option D), δ = [some (.int (x : Nat)), some (.int 0), r, p] ∧ x = Int.gcd a b) b.natAbs ?_ ?_ ?_
  · exact ⟨_, none, none, rfl, bt_le (by simp) hb, rfl⟩
  · rintro m δ ⟨x, r, p, rfl, hbm, hg⟩
    by_cases hm : m = 0
    · subst hm
      exact .inl ⟨by walk_at "pu"; rfl, x, r, p, rfl, by simpa using hg⟩
    · have hlt : x % m < m := Nat.mod_lt _ (by omega)
      have e : ((x : Int) % (m : Int)) = ((x % m : Nat) : Int) := by omega
      have hb' : bt ((x % m : Nat) : Int) ≤ 4000 := bt_le (by simp; omega) hbm
      refine .inr ⟨by walk_at "pu"; simp; omega, [some (.int m), some (.int ((x % m : Nat) : Int)), some (.int ((x % m : Nat) : Int)), p], x % m, ?_, hlt, m, _, _, rfl, hb', ?_⟩
      · walk_at "pu"
        rw [d_mod (by omega), e]
        walk_at "pu"
        have hb'' : Builtin.Int.intBits ((x % m : Nat) : Int) ≤ 4000 := hb'
        rw [if_neg (by omega)]
      · rw [← hg, Nat.gcd_comm x m, Nat.gcd_rec m x, Nat.gcd_comm]
  · rintro δ' ⟨x, r, p, rfl, h2⟩
    exact ret _ (by walk_at "pu"; rw [h2]) (.mk rfl rfl)
theorem v_frac (t b : Int) (hb0 : b ≠ 0) (hb : bt b ≤ 4000) : G_frac [.int t, .int b] = some (dF (qmk t b)) := by
  rw [E_frac]
  refine of_gets ?_
  have hg := v_gcd t b hb
  have hd0 : dv t b ≠ 0 := dv_ne hb0
  have hgb : bt (dv t b) ≤ 9000 := by
    refine bt_up (bt_le ?_ hb) (by decide)
    have : (Int.gcd t b) ∣ b.natAbs := Nat.gcd_dvd_right _ _
    have := Nat.le_of_dvd (by omega) this
    unfold dv; split <;> omega
  refine seq_no (by walk_at "pu"; rw [decide_eq_false hb0]) ?_
  refine seq_st [some (.int t), some (.int b), some (.int (Int.gcd t b : Nat))] (by walk_at "pu"; rw [hg]; rfl) ?_
  refine seq_st [some (.int t), some (.int b), some (.int (dv t b))] ?_ ?_
  · walk_at "pu"
    unfold dv
    split <;> rfl
  · refine ret (dF (qmk t b)) ?_ (.mk rfl rfl)
    walk_at "pu"
    rw [d_divS hd0 hgb, d_divS hd0 hgb]
    rfl
theorem v_law_is_frac {n d t b : Int} (hq : IsQ n d t b) (m1 : IntMulOk n b) (m2 : IntMulOk t d) : G_law_is_frac [dF (n, d), .int t, .int b] = some (.bool true) := by
  rw [E_law_is_frac]
  refine of_gets ?_
  have hp := hq.pos
  have hg := v_law_divisor n d (by omega)
  rw [hq.cop] at hg
  unfold dF
  refine seq_no ?_ (seq_no ?_ (ret (.bool true) ?_ (.mk rfl rfl)))
  · walk_at "pu"
    simp only [v_law_whole]
    walk_at "pu"
    rfl
  · walk_at "pu"
    rw [if_neg (by omega), hg]
    rfl
  · walk_at "pu"
    rw [d_mul m1, d_mul m2, hq.eq]
    walk_at "pu"
    simp
theorem v_law_made (t b : Int) (hb : 1 ≤ b) (hb2 : bt b ≤ 9000) : G_law_made [.int t, .int b] = some (dF (qmk t b)) := by
  rw [E_law_made]
  refine of_gets ?_
  have hb0 : b ≠ 0 := by omega
  have hg : 0 < Int.gcd t b := Int.gcd_pos_of_ne_zero_right _ hb0
  have hgb : bt ((Int.gcd t b : Nat) : Int) ≤ 9000 := by
    refine bt_le ?_ hb2
    have : (Int.gcd t b) ∣ b.natAbs := Nat.gcd_dvd_right _ _
    have := Nat.le_of_dvd (by omega) this
    omega
  have e : dv t b = (Int.gcd t b : Int) := by unfold dv; rw [if_neg (by omega)]
  refine seq_st [some (.int t), some (.int b), some (.int (Int.gcd t b : Nat))] (by walk_at "pu"; rw [v_law_divisor t b (by omega)]; rfl) (ret (dF (qmk t b)) ?_ (.mk rfl rfl))
  walk_at "pu"
  rw [d_divS (by omega) hgb, d_divS (by omega) hgb, ← e]
  rfl
/-- a fraction as the laws draw them -/
structure Dr (q : Fr2) : Prop where
  low : Low q
  top : q.1.natAbs < 2 ^ 70
  bot : q.2 ≤ 10 ^ 20
theorem dr_made {t b : Int} (h1 : 1 ≤ b) (h2 : t.natAbs < 2 ^ 70) (h3 : b ≤ 10 ^ 20) : ∃ q, G_law_made [.int t, .int b] = some (dF q) ∧ Dr q := by
  refine ⟨qmk t b, v_law_made t b h1 (bt_up (bt_of (m := 70) (by omega)) (by decide)), low_mk (by omega), ?_, ?_⟩
  · exact Nat.lt_of_le_of_lt ((qmk_ok (t := t) (show b ≠ 0 by omega)).top_le (by omega)) h2
  · have := (qmk_ok (t := t) (show b ≠ 0 by omega)).bot_le (by omega)
    have := (qmk_ok (t := t) (show b ≠ 0 by omega)).pos
    omega
theorem v_law_frac (c : Int) : Gets (G_law_frac [.int c]) fun d => ∃ q, d = dF q ∧ Dr q := by
  rw [E_law_frac]
  have dd : ∀ {a : Int} (b : Int), 0 < b → b.natAbs < 2 ^ 70 → dDiv (.int a) (.int b) = some (.int (a / b)) := fun b h h2 => d_div h (bt_up (bt_of h2) (by decide))
  have p20 : dPow (.int 10) (.int 20) = some (.int (10 ^ 20)) := d_pow (k := 20) (by decide) (by decide)
  have p9 : dPow (.int 10) (.int 9) = some (.int (10 ^ 9)) := d_pow (k := 9) (by decide) (by decide)
  have p6 : dPow (.int 10) (.int 6) = some (.int (10 ^ 6)) := d_pow (k := 6) (by decide) (by decide)
  have m20 : dMulI (.int 2) (.int (10 ^ 20)) = some (.int (2 * 10 ^ 20)) := d_mul (mul_left (by omega) (by omega))
  have key : ∀ {g : DS → Option D} {δ : DS} {t b : Int}, g δ = G_law_made [.int t, .int b] → 1 ≤ b → t.natAbs < 2 ^ 70 → b ≤ 10 ^ 20 → Gets ((gRet g δ).bind gOut) fun d => ∃ q, d = dF q ∧ Dr q := by
    intro g δ t b e h1 h2 h3
    obtain ⟨q, e2, hq⟩ := dr_made h1 h2 h3
    exact ret _ (e.trans e2) (.mk rfl ⟨q, rfl, hq⟩)
  have keyS : ∀ {g : DS → Option D} {rest : DS → Option Res} {δ : DS}, Gets ((gRet g δ).bind gOut) (fun d => ∃ q, d = dF q ∧ Dr q) → Gets ((gSeq (gRet g) rest δ).bind gOut) fun d => ∃ q, d = dF q ∧ Dr q := by
    intro g rest δ h
    cases eg : g δ with
    | none => obtain ⟨d, e, _⟩ := h; unfold gRet at e; rw [eg] at e; cases e
    | some d => unfold gRet at h; rw [eg] at h; exact seq_ret d eg h
  refine seq_st [some (.int c), some (.int (c % 4)), none] (by walk_at "pu"; rw [d_mod (by omega)]; rfl) ?_
  refine seq_st [some (.int c), some (.int (c % 4)), some (.int (c / 4))] (by walk_at "pu"; rw [dd _ (by omega) (by decide)]; rfl) ?_
  refine seq_iff (decide (c % 4 = 0)) (by walk_at "pu") (fun _ => keyS ?_) (fun _ => ?_)
  · refine key (t := c / 4 % 7 - 3) (b := 1 + c / 4 / 7 % 3) ?_ (by omega) (by omega) (by omega)
    walk_at "pu"
    rw [d_mod (by omega), dd _ (by omega) (by decide)]
    walk_at "pu"
    rw [d_mod (by omega)]
    walk_at "pu"
  refine seq_iff (decide (c % 4 = 1)) (by walk_at "pu") (fun _ => keyS ?_) (fun _ => ?_)
  · refine key (t := c / 4 % (2 * 10 ^ 20 + 1) - 10 ^ 20) (b := 1 + c / 4 / (2 * 10 ^ 20 + 1) % 10 ^ 20) ?_ (by omega) (by omega) (by omega)
    walk_at "pu"
    rw [p20]
    walk_at "pu"
    rw [m20]
    walk_at "pu"
    rw [d_mod (by omega), dd _ (by omega) (by decide)]
    walk_at "pu"
    rw [d_mod (by omega)]
    walk_at "pu"
  refine seq_iff (decide (c % 4 = 2)) (by walk_at "pu") (fun _ => keyS ?_) (fun _ => ?_)
  · have hc : c / 4 % 4 = ((0 : Nat) : Int) ∨ c / 4 % 4 = ((1 : Nat) : Int) ∨ c / 4 % 4 = ((2 : Nat) : Int) ∨ c / 4 % 4 = ((3 : Nat) : Int) := by omega
    have go : ∀ {g : DS → Option D} {δ : DS} (q : Fr2), g δ = some (dF q) → Dr q → Gets ((gRet g δ).bind gOut) fun d => ∃ q, d = dF q ∧ Dr q := fun q e h => ret _ e (.mk rfl ⟨q, rfl, h⟩)
    rcases hc with z | z | z | z
    · refine go (0, 1) ?_ ⟨⟨by decide, by decide⟩, by decide, by decide⟩
      walk_at "pu"
      rw [d_mod (by omega), z]
      rfl
    · refine go (1, 1) ?_ ⟨⟨by decide, by decide⟩, by decide, by decide⟩
      walk_at "pu"
      rw [d_mod (by omega), z]
      rfl
    · refine go (-1, 1) ?_ ⟨⟨by decide, by decide⟩, by decide, by decide⟩
      walk_at "pu"
      rw [d_mod (by omega), z]
      rfl
    · refine go (1, 2) ?_ ⟨⟨by decide, by decide⟩, by decide, by decide⟩
      walk_at "pu"
      rw [d_mod (by omega), z]
      rfl
  · refine key (t := (c / 4 * 48271 + 17) % 2147483647 - 10 ^ 9) (b := 1 + (c / 4 * 16807 + 5) % 2147483629 % 10 ^ 6) ?_ (by omega) (by omega) (by omega)
    have seq_skip' : ∀ {g : DS → Option D} {δ : DS} {r : Option D}, g δ = r → g δ = r := fun h => h
    walk_at "pu"
    rw [d_mul (mul_right (by omega) (by omega)), d_mul (mul_right (by omega) (by omega))]
    walk_at "pu"
    rw [d_mod (by omega), d_mod (by omega), p9, p6]
    walk_at "pu"
    rw [d_mod (by omega)]
    walk_at "pu"
def Drs (l : List Fr2) : Prop := ∀ q ∈ l, Dr q
theorem eq_dF0 (q : Fr2) : dEq (dF q) (.tuple [.int 0, .int 1]) = some (.bool (decide (q = Qz))) := eq_dF q Qz
theorem v_law_poly (ns : List Int) (hn : ns.length ≤ 63) : Gets (G_law_poly [.list (ns.map .int)]) fun ds => ∃ l : List Fr2, ds = l.map dF ∧ Drs l ∧ trim l = l ∧ l.length ≤ ns.length := by
  rw [E_law_poly]
  obtain ⟨m, e, hm, hg⟩ := comp_ex (gi := gItems (gVar 0)) (ix := []) (ge := gCall G_law_frac 1 (gConsA (gVar 0) gNilA)) (δ := [some (.list (ns.map .int)), none]) PyData.int dF (fun _ q => Dr q) ns (by walk_at "pu") (by omega) (fun a _ => by
    obtain ⟨d, e, q, rfl, h⟩ := v_law_frac a
    exact ⟨q, by walk_at "pu"; exact e, h⟩)
  refine seq_st [some (.list (ns.map .int)), some (.list (m.map dF))] (by walk_at "pu"; rw [e]; walk_at "pu") ?_
  refine seq_while (fun k δ => ∃ l : List Fr2, δ = [some (.list (ns.map .int)), some (.list (l.map dF))] ∧ Drs l ∧ l.length = k ∧ k ≤ ns.length) (fun δ => ∃ l : List Fr2, δ = [some (.list (ns.map .int)), some (.list (l.map dF))] ∧ Drs l ∧ trim l = l ∧ l.length ≤ ns.length) m.length ?_ ?_ ?_
  · exact ⟨m, rfl, fun q hq => let ⟨_, _, h⟩ := hg q hq; h, rfl, by omega⟩
  · rintro k δ ⟨l, rfl, hd, rfl, hk⟩
    rcases snoc_cases l with rfl | ⟨l', q, rfl⟩
    · exact .inl ⟨by walk_at "pu"; first | done | rfl, [], rfl, hd, rfl, Nat.zero_le _⟩
    · have hl : atI ((l' ++ [q]).map dF) (-1) = some (dF q) := atIlast (by simp)
      have hpos : (0 : Int) < (((l' ++ [q]).map dF).length : Nat) := by rw [List.length_map, List.length_append, List.length_singleton]; omega
      by_cases hq : q = Qz
      · refine .inr ⟨?_, [some (.list (ns.map .int)), some (.list (l'.map dF))], l'.length, ?_, by simp, l', rfl, fun q hq => hd q (by simp [hq]), rfl, by simp at hk; omega⟩
        · walk_at "pu"
          rw [if_pos hpos, hl, Option.bind_some, eq_dF0, hq]
          rfl
        · walk_at "pu"
          rw [if_neg (by simp)]
          simp
      · refine .inl ⟨?_, _, rfl, hd, trim_x l' hq, hk⟩
        walk_at "pu"
        rw [if_pos hpos, hl, Option.bind_some, eq_dF0, decide_eq_false hq]
        rfl
  · rintro δ' ⟨l, rfl, hd, ht, hk⟩
    exact ret (.list (l.map dF)) (by walk_at "pu") (.mk rfl ⟨l, rfl, hd, ht, hk⟩)
/-- a common bottom: all bottoms go into it -/
theorem big30 : ((10 : Nat) ^ 20) ^ 30 < 2 ^ 1994 := by decide +kernel
theorem le30 {B i : Nat} (h : B ≤ (10 ^ 20) ^ i) (hi : i ≤ 30) : B < 2 ^ 1994 := Nat.lt_of_le_of_lt (Nat.le_trans h (Nat.pow_le_pow_right (by decide) hi)) big30
theorem v_common_bottom (l : List Fr2) (hl : Drs l) (hn : l.length ≤ 30) : Gets (G_common_bottom [dP l]) fun d => ∃ B : Nat, d = .int (B : Nat) ∧ 0 < B ∧ (∀ q ∈ l, q.2 ∣ (B : Int)) ∧ B ≤ (10 ^ 20) ^ l.length := by
  rw [E_common_bottom]
  refine seq_st [some (dP l), some (.int 1), none] (by walk_at "pu") ?_
  refine seq_for dF l (fun i δ => ∃ (B : Nat) (x : Option D), δ = [some (dP l), some (.int (B : Nat)), x] ∧ 0 < B ∧ (∀ q ∈ l.take i, q.2 ∣ (B : Int)) ∧ B ≤ (10 ^ 20) ^ i) ?_ ?_ ?_ ?_
  · unfold dP; walk_at "pu"
  · exact ⟨1, none, rfl, by decide, fun q hq => by simp at hq, by simp⟩
  · rintro i q δ hq ⟨B, x, rfl, hB, hd, hs⟩
    have hdq := hl q (List.mem_of_getElem? hq)
    have h2 := hdq.low.1
    have hi : i < l.length := (List.getElem?_eq_some_iff.mp hq).1
    obtain ⟨c, hc⟩ : ∃ c : Nat, q.2 = c := ⟨q.2.toNat, by omega⟩
    have hb2 : bt (c : Int) ≤ 70 := bt_of (by have := hdq.bot; omega)
    have hg : 0 < Nat.gcd B c := Nat.gcd_pos_of_pos_left _ hB
    have eg : Int.gcd (B : Int) (c : Int) = Nat.gcd B c := rfl
    have hgd : bt ((Nat.gcd B c : Nat) : Int) ≤ 9000 := by
      refine bt_up (bt_le ?_ hb2) (by decide)
      have := Nat.le_of_dvd (by omega) (Nat.gcd_dvd_right B c)
      omega
    have hx : B / Nat.gcd B c ≤ B := Nat.div_le_self _ _
    have hbx : bt ((B / Nat.gcd B c : Nat) : Int) ≤ 1994 := bt_of (by rw [Int.natAbs_natCast]; exact Nat.lt_of_le_of_lt hx (le30 hs (by omega)))
    have hBd : B ∣ B / Nat.gcd B c * c := by
      obtain ⟨k, hk⟩ := Nat.gcd_dvd_right B c
      refine ⟨k, ?_⟩
      conv => lhs; rhs; rw [hk]
      rw [← Nat.mul_assoc, Nat.div_mul_cancel (Nat.gcd_dvd_left B c)]
    have hpos : 0 < B / Nat.gcd B c := Nat.div_pos (Nat.le_of_dvd hB (Nat.gcd_dvd_left B c)) hg
    refine ⟨_, [some (dP l), some (.int ((B / Nat.gcd B c * c : Nat) : Int)), some (dF q)], rfl, ?_, B / Nat.gcd B c * c, some (dF q), rfl, Nat.mul_pos hpos (by omega), ?_, ?_⟩
    · unfold dF
      rw [hc]
      walk_at "pu"
      rw [v_gcd _ _ (bt_up hb2 (by decide)), eg]
      walk_at "pu"
      rw [d_div (by omega) hgd, ← Int.natCast_ediv]
      walk_at "pu"
      rw [d_mul (mulOk hbx hb2), ← Int.natCast_mul]
      walk_at "pu"
    · intro r hr
      rw [List.take_succ, hq] at hr
      rcases List.mem_append.mp hr with z | z
      · exact Int.dvd_trans (hd r z) (Int.natCast_dvd_natCast.mpr hBd)
      · have : r = q := by simpa using z
        subst this
        rw [hc]
        exact Int.natCast_dvd_natCast.mpr ⟨_, Nat.mul_comm _ _⟩
    · rw [Nat.pow_succ]
      exact Nat.mul_le_mul (Nat.le_trans hx hs) (by have := hdq.bot; omega)
  · rintro δ' ⟨B, x, rfl, hB, hd, hs⟩
    rw [List.take_length] at hd
    exact ret _ (by walk_at "pu") (.mk rfl ⟨B, rfl, hB, hd, hs⟩)
theorem v_tops_over (l : List Fr2) (hl : Drs l) (hn : l.length ≤ 30) {B : Nat} (hB : B < 2 ^ 1994) : G_tops_over [dP l, .int (B : Nat)] = some ((l.map fun q => q.1 * ((B : Int) / q.2)).map .int) := by
  rw [E_tops_over]
  refine of_gets (ret (.list ((l.map fun q => q.1 * ((B : Int) / q.2)).map .int)) ?_ (.mk rfl rfl))
  unfold gLst
  rw [comp_of dF PyData.int (fun q => q.1 * ((B : Int) / q.2)) l]
  · rfl
  · unfold dP; walk_at "pu"
  · omega
  · intro q hq
    have hdq := hl q hq
    have h2 := hdq.low.1
    unfold dF
    walk_at "pu"
    rw [d_div (by omega) (bt_up (bt_of (m := 70) (by have := hdq.bot; omega)) (by decide))]
    walk_at "pu"
    rw [d_mul (mulOk (m := 70) (n := 1994) (bt_of hdq.top) (bt_of ?_))]
    obtain ⟨c, hc⟩ : ∃ c : Nat, q.2 = c := ⟨q.2.toNat, by omega⟩
    rw [hc, ← Int.natCast_ediv, Int.natAbs_natCast]
    exact Nat.lt_of_le_of_lt (Nat.div_le_self _ _) hB
end MyLaw

namespace MyLaw
open PySem L2 Q1
theorem ixN_nat {n k : Nat} (h : k < n) : ixN n (k : Int) = some k := by
  unfold ixN
  rw [if_pos (by omega), if_pos (by omega)]
  simp
theorem v_cb (l : List Fr2) (hl : Drs l) (hn : l.length ≤ 30) : G_common_bottom [dP l] = some (.int (lcmL l 1 : Nat)) := by
  rw [E_common_bottom]
  refine of_gets ?_
  have hle : ∀ i, i ≤ 30 → lcmL (l.take i) 1 < 2 ^ 1994 := fun i hi => by
    have h := lcmL_le (M := 10 ^ 20) (by decide) (l.take i) 1 fun q hq => by have h1 := hl q (List.mem_of_mem_take hq); have := h1.bot; have := h1.low.1; omega
    rw [Nat.one_mul, List.length_take] at h
    exact le30 h (by omega)
  refine seq_st [some (dP l), some (.int 1), none] (by walk_at "pu") ?_
  refine seq_for dF l (fun i δ => ∃ (x : Option D), δ = [some (dP l), some (.int (lcmL (l.take i) 1 : Nat)), x]) ?_ ?_ ?_ ?_
  · unfold dP; walk_at "pu"
  · exact ⟨none, rfl⟩
  · rintro i q δ hq ⟨x, rfl⟩
    have hdq := hl q (List.mem_of_getElem? hq)
    have h2 := hdq.low.1
    have hi : i < l.length := (List.getElem?_eq_some_iff.mp hq).1
    have hB : 0 < lcmL (l.take i) 1 := lcmL_pos _ 1 (by decide) fun q hq => by have := (hl q (List.mem_of_mem_take hq)).low.1; omega
    have e1 : lcmL (l.take (i + 1)) 1 = Nat.lcm (lcmL (l.take i) 1) q.2.natAbs := by
      rw [List.take_succ, hq]
      show lcmL (l.take i ++ [q]) 1 = _
      rw [lcmL_app]; rfl
    have hb := hle i (by omega)
    generalize lcmL (l.take i) 1 = B at *
    obtain ⟨c, hc⟩ : ∃ c : Nat, q.2 = c := ⟨q.2.toNat, by omega⟩
    have hb2 : bt (c : Int) ≤ 70 := bt_of (by have := hdq.bot; omega)
    have hg : 0 < Nat.gcd B c := Nat.gcd_pos_of_pos_left _ hB
    have eg : Int.gcd (B : Int) (c : Int) = Nat.gcd B c := rfl
    have hgd : bt ((Nat.gcd B c : Nat) : Int) ≤ 9000 := by
      refine bt_up (bt_le ?_ hb2) (by decide)
      have := Nat.le_of_dvd (by omega) (Nat.gcd_dvd_right B c)
      omega
    have hbx : bt ((B / Nat.gcd B c : Nat) : Int) ≤ 1994 := bt_of (by rw [Int.natAbs_natCast]; exact Nat.lt_of_le_of_lt (Nat.div_le_self _ _) hb)
    have ed : B / Nat.gcd B c * c = Nat.lcm B c := by
      unfold Nat.lcm
      obtain ⟨k, hk⟩ := Nat.gcd_dvd_left B c
      conv => lhs; lhs; lhs; rw [hk]
      conv => rhs; lhs; rw [hk]
      rw [Nat.mul_div_cancel_left _ hg, Nat.mul_assoc, Nat.mul_div_cancel_left _ hg]
    refine ⟨_, [some (dP l), some (.int (lcmL (l.take (i + 1)) 1 : Nat)), some (dF q)], rfl, ?_, some (dF q), rfl⟩
    rw [e1, hc, Int.natAbs_natCast, ← ed]
    unfold dF
    rw [hc]
    walk_at "pu"
    rw [v_gcd _ _ (bt_up hb2 (by decide)), eg]
    walk_at "pu"
    rw [d_div (by omega) hgd, ← Int.natCast_ediv]
    walk_at "pu"
    rw [d_mul (mulOk hbx hb2), ← Int.natCast_mul]
    walk_at "pu"
  · rintro δ' ⟨x, rfl⟩
    rw [List.take_length]
    exact ret _ (by walk_at "pu") (.mk rfl rfl)
theorem v_law_common (l : List Fr2) (hl : Drs l) (hn : l.length ≤ 30) : G_law_common [dP l] = some (.int (lcmL l 1 : Nat)) := by
  rw [E_law_common]
  refine of_gets ?_
  have hle : ∀ i, i ≤ 30 → lcmL (l.take i) 1 < 2 ^ 1994 := fun i hi => by
    have h := lcmL_le (M := 10 ^ 20) (by decide) (l.take i) 1 fun q hq => by have h1 := hl q (List.mem_of_mem_take hq); have := h1.bot; have := h1.low.1; omega
    rw [Nat.one_mul, List.length_take] at h
    exact le30 h (by omega)
  refine seq_st [some (dP l), some (.int 1), none] (by walk_at "pu") ?_
  refine seq_for dF l (fun i δ => ∃ (x : Option D), δ = [some (dP l), some (.int (lcmL (l.take i) 1 : Nat)), x]) ?_ ?_ ?_ ?_
  · unfold dP; walk_at "pu"
  · exact ⟨none, rfl⟩
  · rintro i q δ hq ⟨x, rfl⟩
    have hdq := hl q (List.mem_of_getElem? hq)
    have h2 := hdq.low.1
    have hi : i < l.length := (List.getElem?_eq_some_iff.mp hq).1
    have hB : 0 < lcmL (l.take i) 1 := lcmL_pos _ 1 (by decide) fun q hq => by have := (hl q (List.mem_of_mem_take hq)).low.1; omega
    have e1 : lcmL (l.take (i + 1)) 1 = Nat.lcm (lcmL (l.take i) 1) q.2.natAbs := by
      rw [List.take_succ, hq]
      show lcmL (l.take i ++ [q]) 1 = _
      rw [lcmL_app]; rfl
    have hb := hle i (by omega)
    generalize lcmL (l.take i) 1 = B at *
    obtain ⟨c, hc⟩ : ∃ c : Nat, q.2 = c := ⟨q.2.toNat, by omega⟩
    have hb2 : bt (c : Int) ≤ 70 := bt_of (by have := hdq.bot; omega)
    have hg : 0 < Nat.gcd B c := Nat.gcd_pos_of_pos_left _ hB
    have eg : Int.gcd (B : Int) (c : Int) = Nat.gcd B c := rfl
    have hgd : bt ((Nat.gcd B c : Nat) : Int) ≤ 9000 := by
      refine bt_up (bt_le ?_ hb2) (by decide)
      have := Nat.le_of_dvd (by omega) (Nat.gcd_dvd_right B c)
      omega
    have hbx : bt (B : Int) ≤ 1994 := bt_of (by rw [Int.natAbs_natCast]; exact hb)
    refine ⟨_, [some (dP l), some (.int (lcmL (l.take (i + 1)) 1 : Nat)), some (dF q)], rfl, ?_, some (dF q), rfl⟩
    rw [e1, hc, Int.natAbs_natCast]
    unfold dF
    rw [hc]
    walk_at "pu"
    rw [d_mul (mulOk hbx hb2), v_law_divisor _ _ (by omega), eg]
    walk_at "pu"
    rw [d_div (by omega) hgd, ← Int.natCast_mul, ← Int.natCast_ediv]
    walk_at "pu"
    rfl
  · rintro δ' ⟨x, rfl⟩
    rw [List.take_length]
    exact ret _ (by walk_at "pu") (.mk rfl rfl)
theorem enumD_int (l : List Int) : enumD (l.map .int) = l.zipIdx.map fun p => .tuple [.int (p.2 : Nat), .int p.1] := by
  unfold enumD
  rw [List.zipIdx_map, List.map_map]
  rfl
theorem rep0 : ∀ n : Nat, (List.replicate n [PyData.int 0]).flatten = (tab n fun _ => 0).map .int
  | 0 => rfl
  | n + 1 => by
    rw [List.replicate_succ, List.flatten_cons, rep0 n]
    unfold tab
    rw [List.range_succ_eq_map]
    simp
theorem v_product_of_tops (xs ys : List Int) (hx : ∀ x ∈ xs, bt x ≤ 3000) (hy : ∀ y ∈ ys, bt y ≤ 3000) (hn : xs.length + ys.length ≤ 1000) : G_product_of_tops [.list (xs.map .int), .list (ys.map .int)] = some ((tab (xs.length + ys.length) (cf xs ys)).map .int) := by
  rw [E_product_of_tops]
  refine of_gets ?_
  obtain ⟨T, hT⟩ : ∃ T : Nat → Nat → Int, T = fun i k => sumN i fun i' => sumN ys.length fun j' => if i' + j' = k then xs.getD i' 0 * ys.getD j' 0 else 0 := ⟨_, rfl⟩
  obtain ⟨S, hS⟩ : ∃ S : Nat → Nat → Nat → Int, S = fun i j k => T i k + sumN j fun j' => if i + j' = k then xs.getD i 0 * ys.getD j' 0 else 0 := ⟨_, rfl⟩
  refine seq_st [some (.list (xs.map .int)), some (.list (ys.map .int)), some (.list ((tab (xs.length + ys.length) (T 0)).map .int)), none, none, none, none] ?_ ?_
  · unfold gSetN
    have h0 : T 0 = fun _ => 0 := by rw [hT]; rfl
    rw [repN_of (ds := [.int 0]) (n := xs.length + ys.length) (by walk_at "pu") (by walk_at "pu"; rw [List.length_map, List.length_map, Int.natCast_add]) (by omega) (by show 1 * _ ≤ _; omega), rep0, h0]
    rfl
  refine seq_for (fun p : Int × Nat => PyData.tuple [.int (p.2 : Nat), .int p.1]) xs.zipIdx (fun i δ => ∃ a b c d, δ = [some (.list (xs.map .int)), some (.list (ys.map .int)), some (.list ((tab (xs.length + ys.length) (T i)).map .int)), a, b, c, d]) ?_ ?_ ?_ ?_
  · unfold gEnumerate
    walk_at "pu"
    rw [enumD_int]
  · exact ⟨none, none, none, none, rfl⟩
  · rintro i p δ hp ⟨a, b, c, d, rfl⟩
    rw [List.getElem?_zipIdx] at hp
    cases ex : xs[i]? with
    | none => rw [ex] at hp; cases hp
    | some x =>
      rw [ex] at hp
      have hp' : p = (x, i) := by simpa using hp.symm
      subst hp'
      have hi : i < xs.length := (List.getElem?_eq_some_iff.mp ex).1
      have hxi : xs.getD i 0 = x := by rw [List.getD_eq_getElem?_getD, ex]; rfl
      obtain ⟨δ2, e2, c', d', rfl⟩ := for_inv (t := gTupT 2 (gConsT (gName' 5) (gConsT (gName' 6) gNilT))) (b := gAugIx 2 (fun i j => i + j) (g2 dAdd (gVar 3) (gVar 5)) (g2 dMulI (gVar 4) (gVar 6))) (fun p : Int × Nat => PyData.tuple [.int (p.2 : Nat), .int p.1])
        (fun j δ => ∃ c d, δ = [some (.list (xs.map .int)), some (.list (ys.map .int)), some (.list ((tab (xs.length + ys.length) (S i j)).map .int)), some (.int (i : Nat)), some (.int x), c, d]) ys.zipIdx
        (δ := [some (.list (xs.map .int)), some (.list (ys.map .int)), some (.list ((tab (xs.length + ys.length) (T i)).map .int)), some (.int (i : Nat)), some (.int x), c, d])
        ⟨c, d, by rw [show S i 0 = T i by rw [hS]; funext k; simp [sumN]]⟩ (by
          rintro j p δ hp ⟨c, d, rfl⟩
          rw [List.getElem?_zipIdx] at hp
          cases ey : ys[j]? with
          | none => rw [ey] at hp; cases hp
          | some y =>
            rw [ey] at hp
            have hp' : p = (y, j) := by simpa using hp.symm
            subst hp'
            have hj : j < ys.length := (List.getElem?_eq_some_iff.mp ey).1
            have hyj : ys.getD j 0 = y := by rw [List.getD_eq_getElem?_getD, ey]; rfl
            refine ⟨_, [some (.list (xs.map .int)), some (.list (ys.map .int)), some (.list ((tab (xs.length + ys.length) (S i (j + 1))).map .int)), some (.int (i : Nat)), some (.int x), some (.int (j : Nat)), some (.int y)], by walk_at "pu"; rfl, ?_, _, _, rfl⟩
            unfold gAugIx
            walk_at "pu"
            rw [d_mul (mulOk (hx x (List.mem_of_getElem? ex)) (hy y (List.mem_of_getElem? ey)))]
            walk_at "pu"
            rw [if_pos (by omega), ← Int.natCast_add, List.length_map, tab_len, ixN_nat (by omega)]
            walk_at "pu"
            rw [List.getElem?_map, tab_get (by omega)]
            walk_at "pu"
            rw [show (PyData.int (S i j (i + j) + x * y)) = PyData.int (S i j (i + j) + x * y) from rfl, ← List.map_set, tab_set]
            have key : (tab (xs.length + ys.length) fun k => if i + j = k then S i j (i + j) + x * y else S i j k) = tab (xs.length + ys.length) (S i (j + 1)) := by
              refine tab_congr fun k hk => ?_
              rw [hS]
              simp only [sumN]
              rw [hxi, hyj]
              by_cases e : i + j = k
              · subst e; rw [if_pos rfl, if_pos rfl]; omega
              · rw [if_neg e, if_neg e]; omega
            rw [key])
      refine ⟨_, [some (.list (xs.map .int)), some (.list (ys.map .int)), some (.list ((tab (xs.length + ys.length) (T (i + 1))).map .int)), some (.int (i : Nat)), some (.int x), c', d'], by walk_at "pu"; rfl, ?_, _, _, _, _, rfl⟩
      unfold gFor gEnumerate
      walk_at "pu"
      rw [enumD_int, e2, List.length_zipIdx]
      have : S i ys.length = T (i + 1) := by
        rw [hS, hT]; funext k; simp only [sumN]
      rw [this]
  · rintro δ' ⟨a, b, c, d, rfl⟩
    rw [List.length_zipIdx]
    refine ret (.list ((tab (xs.length + ys.length) (cf xs ys)).map .int)) ?_ (.mk rfl rfl)
    walk_at "pu"
    have : T xs.length = cf xs ys := by rw [hT]; rfl
    rw [this]
theorem v_trimmed (l : List Fr2) : G_trimmed [dP l] = some ((trim l).map dF) := by
  rw [E_trimmed]
  refine of_gets ?_
  refine seq_st [some (dP l), some (.list (l.map dF))] (by unfold dP; walk_at "pu") ?_
  refine seq_while (fun k δ => ∃ m : List Fr2, δ = [some (dP l), some (.list (m.map dF))] ∧ trim m = trim l ∧ m.length = k) (fun δ => δ = [some (dP l), some (.list ((trim l).map dF))]) l.length ?_ ?_ ?_
  · exact ⟨l, rfl, rfl, rfl⟩
  · rintro k δ ⟨m, rfl, ht, rfl⟩
    rcases snoc_cases m with rfl | ⟨l', q, rfl⟩
    · exact .inl ⟨by walk_at "pu"; first | done | rfl, by rw [← ht]; rfl⟩
    · have hl : atI ((l' ++ [q]).map dF) (-1) = some (dF q) := atIlast (by simp)
      have hpos : (0 : Int) < (((l' ++ [q]).map dF).length : Nat) := by rw [List.length_map, List.length_append, List.length_singleton]; omega
      by_cases hq : q = Qz
      · refine .inr ⟨?_, [some (dP l), some (.list (l'.map dF))], l'.length, ?_, by simp, l', rfl, by rw [← ht, hq, trim_z], rfl⟩
        · walk_at "pu"
          rw [if_pos hpos, hl, Option.bind_some, eq_dF0, hq]
          rfl
        · walk_at "pu"
          rw [if_neg (by simp)]
          simp
      · refine .inl ⟨?_, by rw [← ht, trim_x l' hq]⟩
        walk_at "pu"
        rw [if_pos hpos, hl, Option.bind_some, eq_dF0, decide_eq_false hq]
        rfl
  · rintro δ' rfl
    exact ret (.list ((trim l).map dF)) (by walk_at "pu") (.mk rfl rfl)
theorem big_tops {l : List Fr2} (hl : Drs l) {B : Nat} (hB : B < 2 ^ 1994) : ∀ t ∈ topsB l B, bt t ≤ 3000 := by
  intro t ht
  unfold topsB at ht
  obtain ⟨a, ha, rfl⟩ := List.mem_map.mp ht
  have hda := hl a ha
  obtain ⟨c, hc⟩ : ∃ c : Nat, a.2 = c := ⟨a.2.toNat, by have := hda.low.1; omega⟩
  refine bt_up (bt_mul (bt_of hda.top) (bt_of (m := 1994) ?_)) (by decide)
  rw [hc, ← Int.natCast_ediv, Int.natAbs_natCast]
  exact Nat.lt_of_le_of_lt (Nat.div_le_self _ _) hB
theorem lcm_lt {l : List Fr2} (hl : Drs l) (hn : l.length ≤ 30) : lcmL l 1 < 2 ^ 1994 := by
  have h := lcmL_le (M := 10 ^ 20) (by decide) l 1 fun q hq => by have h1 := hl q hq; have := h1.bot; have := h1.low.1; omega
  rw [Nat.one_mul] at h
  exact le30 h hn
theorem lcm_pos {l : List Fr2} (hl : Drs l) : 0 < lcmL l 1 := lcmL_pos l 1 (by decide) fun q hq => by have := (hl q hq).low.1; omega
theorem v_product (l m : List Fr2) (hl : Drs l) (hm : Drs m) (hn : l.length ≤ 30) (hn2 : m.length ≤ 30) : G_product [dP l, dP m] = some ((pmul l m).map dF) := by
  rw [E_product]
  refine of_gets ?_
  have b1 := lcm_lt hl hn
  have b2 := lcm_lt hm hn2
  have p1 := lcm_pos hl
  have p2 := lcm_pos hm
  have c1 := v_cb l hl hn
  have c2 := v_cb m hm hn2
  have t1 := v_tops_over l hl hn b1
  have t2 := v_tops_over m hm hn2 b2
  have e3 := v_product_of_tops (topsB l (lcmL l 1)) (topsB m (lcmL m 1)) (big_tops hl b1) (big_tops hm b2) (by unfold topsB; simp; omega)
  have ln : (topsB l (lcmL l 1)).length + (topsB m (lcmL m 1)).length = l.length + m.length := by unfold topsB; simp
  rw [ln] at e3
  have bB1 : bt ((lcmL l 1 : Nat) : Int) ≤ 1994 := bt_of (by rw [Int.natAbs_natCast]; exact b1)
  have bB2 : bt ((lcmL m 1 : Nat) : Int) ≤ 1994 := bt_of (by rw [Int.natAbs_natCast]; exact b2)
  have hpm : pmul l m = trim ((tab (l.length + m.length) (cf (topsB l (lcmL l 1)) (topsB m (lcmL m 1)))).map fun t => qmk t ((lcmL l 1 : Int) * (lcmL m 1 : Int))) := by
    unfold pmul tab; rw [List.map_map]; rfl
  rw [hpm]
  generalize hL : tab (l.length + m.length) (cf (topsB l (lcmL l 1)) (topsB m (lcmL m 1))) = ts at *
  have hts : ts.length ≤ 60 := by rw [← hL, tab_len]; omega
  generalize lcmL l 1 = B1 at *
  generalize lcmL m 1 = B2 at *
  have hne : ((B1 : Nat) : Int) * ((B2 : Nat) : Int) ≠ 0 := Int.mul_ne_zero (by omega) (by omega)
  refine seq_st [some (dP l), some (dP m), some (.int (B1 : Nat)), none, none, none] (by walk_at "pu"; rw [c1]; rfl) ?_
  refine seq_st [some (dP l), some (dP m), some (.int (B1 : Nat)), some (.int (B2 : Nat)), none, none] (by walk_at "pu"; rw [c2]; rfl) ?_
  refine seq_st [some (dP l), some (dP m), some (.int (B1 : Nat)), some (.int (B2 : Nat)), some (.list (ts.map .int)), none] (set_of (lst_of (callN_of (cons_of (lst_of (callN_of (cons_of rfl (cons_of rfl rfl)) rfl t1)) (cons_of (lst_of (callN_of (cons_of rfl (cons_of rfl rfl)) rfl t2)) rfl)) rfl e3))) ?_
  refine seq_st [some (dP l), some (dP m), some (.int (B1 : Nat)), some (.int (B2 : Nat)), some (.list (ts.map .int)), some (.int ((B1 : Int) * (B2 : Int)))] (by walk_at "pu"; rw [d_mul (mulOk bB1 bB2)]; walk_at "pu") ?_
  refine ret (.list ((trim (ts.map fun t => qmk t ((B1 : Int) * (B2 : Int)))).map dF)) ?_ (.mk rfl rfl)
  have hc := comp_of (gi := gItems (gVar 4)) (ix := [5]) (ge := gCall G_frac 2 (gConsA (gVar 0) (gConsA (gVar 1) gNilA))) (δ := [some (dP l), some (dP m), some (.int (B1 : Nat)), some (.int (B2 : Nat)), some (.list (ts.map .int)), some (.int ((B1 : Int) * (B2 : Int)))]) PyData.int dF (fun t => qmk t ((B1 : Int) * (B2 : Int))) ts (by walk_at "pu") (by omega) (fun t ht => by
    walk_at "pu"
    exact v_frac t _ hne (bt_up (bt_mul bB1 bB2) (by decide)))
  have hv := v_trimmed (ts.map fun t => qmk t ((B1 : Int) * (B2 : Int)))
  unfold dP at hv
  walk_at "pu"
  rw [hc]
  walk_at "pu"
  rw [hv]
  walk_at "pu"
abbrev qm (x : Fr2) : Fr2 := qmk x.1 x.2
theorem v_law_is_row (ps : List Fr2) (hn : ps.length ≤ 1000) (hp : ∀ x ∈ ps, x.2 ≠ 0 ∧ bt x.1 ≤ 20000 ∧ bt x.2 ≤ 20000) : G_law_is_row [.list ((trim (ps.map qm)).map dF), .list (ps.map dF)] = some (.bool true) := by
  rw [E_law_is_row]
  refine of_gets ?_
  generalize hF : (trim (ps.map qm)).map dF = fs
  refine seq_st [some (.list fs), some (.list (ps.map dF)), some (.int (ps.length : Nat)), none] (by walk_at "pu"; rw [List.length_map]) ?_
  refine seq_while (fun k δ => δ = [some (.list fs), some (.list (ps.map dF)), some (.int (k : Nat)), none] ∧ k ≤ ps.length ∧ trim (ps.map qm) = trim ((ps.take k).map qm)) (fun δ => ∃ k : Nat, δ = [some (.list fs), some (.list (ps.map dF)), some (.int (k : Nat)), none] ∧ k ≤ ps.length ∧ trim (ps.map qm) = (ps.take k).map qm) ps.length ?_ ?_ ?_
  · exact ⟨rfl, Nat.le_refl _, by rw [List.take_length]⟩
  · rintro k δ ⟨rfl, hk, ht⟩
    cases k with
    | zero => exact .inl ⟨by walk_at "pu"; first | done | rfl, 0, rfl, hk, ht⟩
    | succ k =>
      obtain ⟨x, hx⟩ : ∃ x, ps[k]? = some x := ⟨_, List.getElem?_eq_getElem (by omega)⟩
      have hxm := List.mem_of_getElem? hx
      have hat : atI (ps.map dF) (((k + 1 : Nat) : Int) - 1) = some (dF x) := by
        rw [show ((k + 1 : Nat) : Int) - 1 = (k : Nat) by omega]
        exact atI_nat (by rw [List.getElem?_map, hx]; rfl)
      have htk : ps.take (k + 1) = ps.take k ++ [x] := by rw [List.take_succ, hx]; rfl
      by_cases hz : x.1 = 0
      · refine .inr ⟨?_, [some (.list fs), some (.list (ps.map dF)), some (.int (k : Nat)), none], k, ?_, by omega, rfl, by omega, ?_⟩
        · walk_at "pu"
          rw [if_pos (by omega), hat]
          unfold dF
          walk_at "pu"
          rw [hz]
          rfl
        · walk_at "pu"
          rw [show ((k + 1 : Nat) : Int) - 1 = (k : Nat) by omega]
        · rw [ht, htk, List.map_append, List.map_cons, List.map_nil]
          have : qm x = Qz := (qmk_zero (hp x hxm).1).mpr hz
          rw [this, trim_z]
      · refine .inl ⟨?_, k + 1, rfl, hk, ?_⟩
        · walk_at "pu"
          rw [if_pos (by omega), hat]
          unfold dF
          walk_at "pu"
          rw [decide_eq_false hz]
        · rw [ht, htk, List.map_append, List.map_cons, List.map_nil]
          exact trim_x _ fun h => hz ((qmk_zero (hp x hxm).1).mp h)
  · rintro δ' ⟨k, rfl, hk, ht⟩
    have hfs : fs = (ps.take k).map fun x => dF (qm x) := by rw [← hF, ht, List.map_map]; rfl
    have hfl : fs.length = k := by rw [hfs, List.length_map, List.length_take]; omega
    refine seq_no ?_ (seq_forR 0 k (fun i δ => ∃ x, δ = [some (.list fs), some (.list (ps.map dF)), some (.int (k : Nat)), x]) ?_ ⟨none, rfl⟩ ?_ ?_)
    · walk_at "pu"
      rw [hfl]
      simp
    · exact range1_of (by walk_at "pu") (by omega)
    · rintro i δ hi ⟨x, rfl⟩
      rw [Int.zero_add]
      obtain ⟨y, hy⟩ : ∃ y, ps[i]? = some y := ⟨_, List.getElem?_eq_getElem (by omega)⟩
      obtain ⟨h2, h3, h4⟩ := hp y (List.mem_of_getElem? hy)
      have hok := qmk_ok (t := y.1) h2
      have hat1 : atI fs (i : Int) = some (dF (qm y)) := atI_nat (by rw [hfs, List.getElem?_map, List.getElem?_take_of_lt hi, hy]; rfl)
      have hat2 : atI (ps.map dF) (i : Int) = some (dF y) := atI_nat (by rw [List.getElem?_map, hy]; rfl)
      have hfr : G_law_is_frac [dF (qm y), .int y.1, .int y.2] = some (.bool true) := v_law_is_frac hok (mulOk (bt_le (hok.top_le h2) h3) h4) (mulOk h3 (bt_le (hok.bot_le h2) h4))
      refine ⟨_, [some (.list fs), some (.list (ps.map dF)), some (.int (k : Nat)), some (.int (i : Nat))], rfl, st_no ?_, _, rfl⟩
      walk_at "pu"
      rw [hat1, hat2]
      unfold dF at hfr ⊢
      walk_at "pu"
      rw [hfr]
      walk_at "pu"
    · rintro δ' ⟨x, rfl⟩
      exact ret _ (by walk_at "pu") (.mk rfl rfl)
end MyLaw

namespace MyLaw
open PySem L2 Q1
theorem cut_to {α : Type} (enc : α → D) (l : List α) (b : Nat) : ∃ m : List α, cutD (l.map enc) none (some (b : Int)) = m.map enc ∧ m.length ≤ b := by
  unfold cutD
  refine ⟨(l.drop _).take _, by rw [List.map_take, List.map_drop, List.length_map], ?_⟩
  rw [List.length_take, HT.sIx_nat, HT.sIx_none]; omega
theorem eq_dPs (a b : List (List Fr2)) : dEq (dPs a) (dPs b) = some (.bool (decide (a = b))) := by
  show (if (SeqAt.shaped (dPs a) && SeqAt.shaped (dPs b)) = true then some (PyData.bool (PyData.eqv (dPs a) (dPs b))) else none) = _
  rw [sh_dPs, sh_dPs, eqv_dPs]; rfl
theorem tops_get {l : List Fr2} {B i : Nat} {a : Fr2} (h : l[i]? = some a) : (topsB l B).getD i 0 = a.1 * ((B : Int) / a.2) := by
  unfold topsB
  rw [List.getD_eq_getElem?_getD, List.getElem?_map, h]; rfl
theorem law_true (ns : List Int) (h : ns.length ≤ 63) : G_law [.list (ns.map .int)] = some (.bool true) := by
  rw [E_law]
  refine of_gets ?_
  obtain ⟨cs, ecs, hcs, _⟩ := cut_nat PyData.int ns 3 27
  obtain ⟨ct, hct⟩ : ∃ ct : Int, ct = ns.getD 0 0 % ((cs.length : Int) + 1) := ⟨_, rfl⟩
  obtain ⟨d1, ed1, hd1, _⟩ := cutD_map PyData.int cs none (some ct)
  obtain ⟨d2, ed2, hd2⟩ := cut_to PyData.int d1 12
  obtain ⟨d3, ed3, hd3, _⟩ := cutD_map PyData.int cs (some ct) none
  obtain ⟨d4, ed4, hd4⟩ := cut_to PyData.int d3 12
  obtain ⟨_, ep1, l, rfl, hl, htl, hll⟩ := v_law_poly d2 (by omega)
  obtain ⟨_, ep2, m, rfl, hm, htm, hmm⟩ := v_law_poly d4 (by omega)
  have hn : l.length ≤ 12 := by omega
  have hn2 : m.length ≤ 12 := by omega
  have pr := v_product l m hl hm (by omega) (by omega)
  have pr' := v_product m l hm hl (by omega) (by omega)
  have pn := v_product [] l (fun q hq => by simp at hq) hl (by simp) (by omega)
  have pn' := v_product m [] hm (fun q hq => by simp at hq) (by omega) (by simp)
  have p1 := v_product l [(1, 1)] hl (fun q hq => by
    have : q = (1, 1) := by simpa using hq
    subst this; exact ⟨⟨by decide, by decide⟩, by decide, by decide⟩) (by omega) (by simp)
  have lows : ∀ {l : List Fr2}, Drs l → Lows l := fun h q hq => (h q hq).low
  rw [pmul_one (lows hl) htl] at p1
  rw [pmul_nil (lows hl)] at pn
  rw [pmul_comm, pmul_nil (lows hm)] at pn'
  rw [pmul_comm] at pr'
  have c1 := v_law_common l hl (by omega)
  have c2 := v_law_common m hm (by omega)
  have b1 := lcm_lt hl (by omega)
  have b2 := lcm_lt hm (by omega)
  have q1 := lcm_pos hl
  have q2 := lcm_pos hm
  have t1 := big_tops hl b1
  have t2 := big_tops hm b2
  have hpm : pmul l m = trim (((tab (l.length + m.length) (cf (topsB l (lcmL l 1)) (topsB m (lcmL m 1)))).map fun t => ((t, (lcmL l 1 : Int) * (lcmL m 1 : Int)) : Fr2)).map qm) := by
    unfold pmul tab; rw [List.map_map, List.map_map]; rfl
  have gl : ∀ {i : Nat} {a : Fr2}, l[i]? = some a → (topsB l (lcmL l 1)).getD i 0 = a.1 * ((lcmL l 1 : Int) / a.2) := fun h => tops_get h
  have gm : ∀ {i : Nat} {a : Fr2}, m[i]? = some a → (topsB m (lcmL m 1)).getD i 0 = a.1 * ((lcmL m 1 : Int) / a.2) := fun h => tops_get h
  have lx : (topsB l (lcmL l 1)).length = l.length := by unfold topsB; simp
  have ly : (topsB m (lcmL m 1)).length = m.length := by unfold topsB; simp
  have bB1 : bt ((lcmL l 1 : Nat) : Int) ≤ 1994 := bt_of (by rw [Int.natAbs_natCast]; exact b1)
  have bB2 : bt ((lcmL m 1 : Nat) : Int) ≤ 1994 := bt_of (by rw [Int.natAbs_natCast]; exact b2)
  have cfb : ∀ k, bt (cf (topsB l (lcmL l 1)) (topsB m (lcmL m 1)) k) ≤ 20000 := by
    intro k
    have := cf_abs (M := 2 ^ 3000) (N := 2 ^ 3000) (fun x hx => Nat.le_of_lt (bt_lt (t1 x hx))) (fun x hx => Nat.le_of_lt (bt_lt (t2 x hx))) k
    refine bt_up (bt_of (m := 6010) (Nat.lt_of_le_of_lt this ?_)) (by decide)
    rw [lx, ly]
    refine Nat.lt_of_le_of_lt (Nat.mul_le_mul hn (Nat.mul_le_mul_right _ hn2)) (by decide +kernel)
  generalize hX : topsB l (lcmL l 1) = xs at *
  generalize hY : topsB m (lcmL m 1) = ys at *
  generalize lcmL l 1 = B1 at *
  generalize lcmL m 1 = B2 at *
  refine seq_st [some (.list (ns.map .int)), some (.list (cs.map .int)), none, none, none, none, none, none, none, none, none, none, none, none, none, none, none] (by walk_at "pu"; rw [show ((3 : Int)) = ((3 : Nat) : Int) from rfl, show ((27 : Int)) = ((27 : Nat) : Int) from rfl, ecs]) ?_
  refine seq_st [some (.list (ns.map .int)), some (.list (cs.map .int)), some (.int ct), none, none, none, none, none, none, none, none, none, none, none, none, none, none] (by
    walk_at "pu"
    rw [show ((0 : Int)) = ((0 : Nat) : Int) from rfl, v_law_cell]
    walk_at "pu"
    rw [List.length_map, d_mod (by omega), hct]
    walk_at "pu") ?_
  refine seq_st [some (.list (ns.map .int)), some (.list (cs.map .int)), some (.int ct), some (dP l), none, none, none, none, none, none, none, none, none, none, none, none, none] (by
    walk_at "pu"
    rw [ed1, show ((12 : Int)) = ((12 : Nat) : Int) from rfl, ed2, ep1]
    rfl) ?_
  refine seq_st [some (.list (ns.map .int)), some (.list (cs.map .int)), some (.int ct), some (dP l), some (dP m), none, none, none, none, none, none, none, none, none, none, none, none] (by
    walk_at "pu"
    rw [ed3, show ((12 : Int)) = ((12 : Nat) : Int) from rfl, ed4, ep2]
    rfl) ?_
  refine seq_st [some (.list (ns.map .int)), some (.list (cs.map .int)), some (.int ct), some (dP l), some (dP m), some (.int (B1 : Nat)), none, none, none, none, none, none, none, none, none, none, none] (by walk_at "pu"; rw [c1]; rfl) ?_
  refine seq_st [some (.list (ns.map .int)), some (.list (cs.map .int)), some (.int ct), some (dP l), some (dP m), some (.int (B1 : Nat)), some (.int (B2 : Nat)), none, none, none, none, none, none, none, none, none, none] (by walk_at "pu"; rw [c2]; rfl) ?_
  obtain ⟨T, hT⟩ : ∃ T : Nat → Nat → Int, T = fun i k => sumN i fun i' => sumN ys.length fun j' => if i' + j' = k then xs.getD i' 0 * ys.getD j' 0 else 0 := ⟨_, rfl⟩
  obtain ⟨S, hS⟩ : ∃ S : Nat → Nat → Nat → Int, S = fun i j k => T i k + sumN j fun j' => if i + j' = k then xs.getD i 0 * ys.getD j' 0 else 0 := ⟨_, rfl⟩
  have hT0 : T 0 = fun _ => 0 := by rw [hT]; rfl
  refine seq_st [some (.list (ns.map .int)), some (.list (cs.map .int)), some (.int ct), some (dP l), some (dP m), some (.int (B1 : Nat)), some (.int (B2 : Nat)), some (.list ((tab (l.length + m.length) (T 0)).map .int)), none, none, none, none, none, none, none, none, none] (by
    refine setN_of ?_
    rw [hT0]
    refine comp_of (fun k : Nat => PyData.int (0 + k)) PyData.int (fun _ => 0) (List.range (l.length + m.length)) ?_ (by simp; omega) (fun _ _ => rfl)
    refine range1_of (n := l.length + m.length) ?_ (by omega)
    walk_at "pu"
    rw [Int.natCast_add]) ?_
  refine seq_forR 0 l.length (fun i δ => ∃ a b c d, δ = [some (.list (ns.map .int)), some (.list (cs.map .int)), some (.int ct), some (dP l), some (dP m), some (.int (B1 : Nat)), some (.int (B2 : Nat)), some (.list ((tab (l.length + m.length) (T i)).map .int)), a, b, c, d, none, none, none, none, none]) (range1_of (by walk_at "pu") (by omega)) ⟨none, none, none, none, rfl⟩ ?_ ?_
  · rintro i δ hi ⟨a, b, c, d, rfl⟩
    obtain ⟨q, hq⟩ : ∃ q, l[i]? = some q := ⟨_, List.getElem?_eq_getElem hi⟩
    have hdq := hl q (List.mem_of_getElem? hq)
    have hq2 := hdq.low.1
    have atq : atI (l.map dF) (i : Int) = some (dF q) := atI_nat (by rw [List.getElem?_map, hq]; rfl)
    have bq2 : bt q.2 ≤ 9000 := bt_up (bt_of (m := 70) (by have := hdq.bot; omega)) (by decide)
    have bdiv : ∀ {B : Nat} {z : Int}, bt ((B : Nat) : Int) ≤ 1994 → 1 ≤ z → bt ((B : Int) / z) ≤ 1994 := by
      intro B z hB hz
      obtain ⟨c, hc⟩ : ∃ c : Nat, z = c := ⟨z.toNat, by omega⟩
      refine bt_le ?_ hB
      rw [hc, ← Int.natCast_ediv, Int.natAbs_natCast, Int.natAbs_natCast]
      exact Nat.div_le_self _ _
    obtain ⟨δ2, e2, b', c', d', rfl⟩ := forR_inv (t := gName' 9) (lo := 0) (n := m.length) (b := gSeq (gSet 10 (g2 dMulI (g2 dIx (g2 dIx (gVar 3) (gVar 8)) (gC (.int (0)))) (g2 dDiv (gVar 5) (g2 dIx (g2 dIx (gVar 3) (gVar 8)) (gC (.int (1))))))) (gSeq (gSet 11 (g2 dMulI (g2 dIx (g2 dIx (gVar 4) (gVar 9)) (gC (.int (0)))) (g2 dDiv (gVar 6) (g2 dIx (g2 dIx (gVar 4) (gVar 9)) (gC (.int (1))))))) (gSetIx 7 (g2 dAdd (gVar 8) (gVar 9)) (g2 dAdd (g2 dIx (gVar 7) (g2 dAdd (gVar 8) (gVar 9))) (g2 dMulI (gVar 10) (gVar 11))))))
      (fun j δ => ∃ b c d, δ = [some (.list (ns.map .int)), some (.list (cs.map .int)), some (.int ct), some (dP l), some (dP m), some (.int (B1 : Nat)), some (.int (B2 : Nat)), some (.list ((tab (l.length + m.length) (S i j)).map .int)), some (.int (i : Nat)), b, c, d, none, none, none, none, none])
      (δ := [some (.list (ns.map .int)), some (.list (cs.map .int)), some (.int ct), some (dP l), some (dP m), some (.int (B1 : Nat)), some (.int (B2 : Nat)), some (.list ((tab (l.length + m.length) (T i)).map .int)), some (.int (i : Nat)), b, c, d, none, none, none, none, none])
      ⟨b, c, d, by rw [show S i 0 = T i by rw [hS]; funext k; simp [sumN]]⟩ (by
        rintro j δ hj ⟨b, c, d, rfl⟩
        obtain ⟨r, hr⟩ : ∃ r, m[j]? = some r := ⟨_, List.getElem?_eq_getElem hj⟩
        have hdr := hm r (List.mem_of_getElem? hr)
        have hr2 := hdr.low.1
        have atr : atI (m.map dF) (j : Int) = some (dF r) := atI_nat (by rw [List.getElem?_map, hr]; rfl)
        have br2 : bt r.2 ≤ 9000 := bt_up (bt_of (m := 70) (by have := hdr.bot; omega)) (by decide)
        have hx := gl hq
        have hy := gm hr
        refine ⟨_, [some (.list (ns.map .int)), some (.list (cs.map .int)), some (.int ct), some (dP l), some (dP m), some (.int (B1 : Nat)), some (.int (B2 : Nat)), some (.list ((tab (l.length + m.length) (S i (j + 1))).map .int)), some (.int (i : Nat)), some (.int (j : Nat)), some (.int (q.1 * ((B1 : Int) / q.2))), some (.int (r.1 * ((B2 : Int) / r.2))), none, none, none, none, none], rfl, ?_, _, _, _, rfl⟩
        have bl := bt_mul (bt_of hdq.top) (bdiv bB1 hq2)
        have br := bt_mul (bt_of hdr.top) (bdiv bB2 hr2)
        have hlt : i + j < l.length + m.length := by omega
        have key : (tab (l.length + m.length) fun k => if i + j = k then S i j (i + j) + q.1 * ((B1 : Int) / q.2) * (r.1 * ((B2 : Int) / r.2)) else S i j k) = tab (l.length + m.length) (S i (j + 1)) := by
          refine tab_congr fun k hk => ?_
          rw [hS]
          simp only [sumN]
          rw [hx, hy]
          by_cases e : i + j = k
          · subst e; rw [if_pos rfl, if_pos rfl]; omega
          · rw [if_neg e, if_neg e]; omega
        rw [Int.zero_add]
        refine st_seq [some (.list (ns.map .int)), some (.list (cs.map .int)), some (.int ct), some (dP l), some (dP m), some (.int (B1 : Nat)), some (.int (B2 : Nat)), some (.list ((tab (l.length + m.length) (S i j)).map .int)), some (.int (i : Nat)), some (.int (j : Nat)), some (.int (q.1 * ((B1 : Int) / q.2))), d, none, none, none, none, none] ?_ (st_seq [some (.list (ns.map .int)), some (.list (cs.map .int)), some (.int ct), some (dP l), some (dP m), some (.int (B1 : Nat)), some (.int (B2 : Nat)), some (.list ((tab (l.length + m.length) (S i j)).map .int)), some (.int (i : Nat)), some (.int (j : Nat)), some (.int (q.1 * ((B1 : Int) / q.2))), some (.int (r.1 * ((B2 : Int) / r.2))), none, none, none, none, none] ?_ ?_)
        · walk_at "pu"
          rw [atq]
          walk_at "pu"
          rw [d_div (by omega) bq2]
          walk_at "pu"
          rw [d_mul (mulOk (bt_of hdq.top) (bdiv bB1 hq2))]
          walk_at "pu"
        · walk_at "pu"
          rw [atr]
          walk_at "pu"
          rw [d_div (by omega) br2]
          walk_at "pu"
          rw [d_mul (mulOk (bt_of hdr.top) (bdiv bB2 hr2))]
          walk_at "pu"
        · walk_at "pu"
          rw [d_mul (mulOk bl br), ← Int.natCast_add, atI_nat (v := .int (S i j (i + j))) (by rw [List.getElem?_map, tab_get hlt]; rfl)]
          walk_at "pu"
          rw [List.length_map, tab_len, ixN_nat hlt]
          walk_at "pu"
          rw [← List.map_set, tab_set, key])
    rw [Int.zero_add]
    refine ⟨_, [some (.list (ns.map .int)), some (.list (cs.map .int)), some (.int ct), some (dP l), some (dP m), some (.int (B1 : Nat)), some (.int (B2 : Nat)), some (.list ((tab (l.length + m.length) (T (i + 1))).map .int)), some (.int (i : Nat)), b', c', d', none, none, none, none, none], rfl, ?_, _, _, _, _, rfl⟩
    have hST : S i m.length = T (i + 1) := by
      rw [hS, hT]; funext k; simp only [sumN]; rw [ly]
    unfold gFor
    rw [range1_of (n := m.length) (by walk_at "pu") (by omega), Option.bind_some]
    rw [hST] at e2
    exact e2
  rintro δ' ⟨a, b, c, d, rfl⟩
  have hTn : T l.length = cf xs ys := by rw [hT, ← lx]; rfl
  rw [hTn]
  have htsb : ∀ t ∈ tab (l.length + m.length) (cf xs ys), bt t ≤ 20000 := by
    intro t ht
    unfold tab at ht
    obtain ⟨k, _, rfl⟩ := List.mem_map.mp ht
    exact cfb k
  have htsl : (tab (l.length + m.length) (cf xs ys)).length ≤ 24 := by rw [tab_len]; omega
  generalize tab (l.length + m.length) (cf xs ys) = ts at *
  have hrow := v_law_is_row (ts.map fun t => ((t, (B1 : Int) * (B2 : Int)) : Fr2)) (by rw [List.length_map]; omega) (fun x hx => by
    obtain ⟨t, ht, rfl⟩ := List.mem_map.mp hx
    exact ⟨Int.mul_ne_zero (by omega) (by omega), htsb t ht, bt_up (bt_mul bB1 bB2) (by decide)⟩)
  rw [← hpm] at hrow
  have hcomp := comp_of (gi := gItems (gVar 7)) (ix := [5, 6]) (ge := gTupD (gConsA (gVar 0) (gConsA (g2 dMulI (gVar 1) (gVar 2)) gNilA))) (δ := [some (.list (ns.map .int)), some (.list (cs.map .int)), some (.int ct), some (dP l), some (dP m), some (.int (B1 : Nat)), some (.int (B2 : Nat)), some (.list (ts.map .int)), a, b, c, d, none, none, none, none, none]) PyData.int dF (fun t => ((t, (B1 : Int) * (B2 : Int)) : Fr2)) ts (by walk_at "pu") (by omega) (fun t ht => by
    walk_at "pu"
    rw [d_mul (mulOk bB1 bB2)]
    rfl)
  have hpsl : (ts.map fun t => ((t, (B1 : Int) * (B2 : Int)) : Fr2)).length ≤ 24 := by rw [List.length_map]; exact htsl
  generalize (ts.map fun t => ((t, (B1 : Int) * (B2 : Int)) : Fr2)) = ps at *
  have hpmB : ((pmul l m).map dF).length < 100000 := by
    have := trim_len (ps.map qm)
    rw [← hpm, List.length_map] at this
    rw [List.length_map]; omega
  generalize pmul l m = pm at *
  refine seq_st [some (.list (ns.map .int)), some (.list (cs.map .int)), some (.int ct), some (dP l), some (dP m), some (.int (B1 : Nat)), some (.int (B2 : Nat)), some (.list (ts.map .int)), a, b, c, d, some (.list (ps.map dF)), none, none, none, none] (set_of (lst_of hcomp)) ?_
  refine seq_st [some (.list (ns.map .int)), some (.list (cs.map .int)), some (.int ct), some (dP l), some (dP m), some (.int (B1 : Nat)), some (.int (B2 : Nat)), some (.list (ts.map .int)), a, b, c, d, some (.list (ps.map dF)), some (dPs [l, m]), none, none, none] rfl ?_
  refine seq_st [some (.list (ns.map .int)), some (.list (cs.map .int)), some (.int ct), some (dP l), some (dP m), some (.int (B1 : Nat)), some (.int (B2 : Nat)), some (.list (ts.map .int)), a, b, c, d, some (.list (ps.map dF)), some (dPs [l, m]), some (.list (pm.map dF)), none, none] (setN_of (callN_of (cons_of rfl (cons_of rfl rfl)) rfl pr)) ?_
  have eqPs : dEq (dPs [l, m]) (.list [dP l, dP m]) = some (.bool true) := (eq_dPs [l, m] [l, m]).trans (by simp)
  refine seq_no ?_ ?_
  · walk_at "pu"
    rw [dNe_of eqPs]
    walk_at "pu"
    rw [hrow]
    walk_at "pu"
  refine seq_st [some (.list (ns.map .int)), some (.list (cs.map .int)), some (.int ct), some (dP l), some (dP m), some (.int (B1 : Nat)), some (.int (B2 : Nat)), some (.list (ts.map .int)), a, b, c, d, some (.list (ps.map dF)), some (dPs [l, m]), some (.list (pm.map dF)), some (dP pm), none] rfl ?_
  refine seq_st [some (.list (ns.map .int)), some (.list (cs.map .int)), some (.int ct), some (dP l), some (dP m), some (.int (B1 : Nat)), some (.int (B2 : Nat)), some (.list (ts.map .int)), a, b, c, d, some (.list (ps.map dF)), some (dPs [l, m]), some (.list (pm.map dF ++ [.tuple [.int 7, .int 1]])), some (dP pm), none] (by walk_at "pu"; rw [if_pos hpmB]) ?_
  refine seq_st [some (.list (ns.map .int)), some (.list (cs.map .int)), some (.int ct), some (dP l), some (dP m), some (.int (B1 : Nat)), some (.int (B2 : Nat)), some (.list (ts.map .int)), a, b, c, d, some (.list (ps.map dF)), some (dPs [l, m]), some (.list (pm.map dF ++ [.tuple [.int 7, .int 1]])), some (dP pm), some (dP l)] (setN_of (callN_of (cons_of rfl (cons_of rfl rfl)) rfl p1)) ?_
  refine seq_no ?_ ?_
  · have e1 : dNe (dP l) (dP l) = some (.bool false) := (dNe_of (eq_dP l l)).trans (by simp)
    have e2 : dNe (dP pm) (dP pm) = some (.bool false) := (dNe_of (eq_dP pm pm)).trans (by simp)
    have e3 : (gLst (gCallN G_product 2 (gConsA (g2 dIx (gVar 13) (gC (.int (0)))) (gConsA (g2 dIx (gVar 13) (gC (.int (1)))) gNilA)))) [some (.list (ns.map .int)), some (.list (cs.map .int)), some (.int ct), some (dP l), some (dP m), some (.int (B1 : Nat)), some (.int (B2 : Nat)), some (.list (ts.map .int)), a, b, c, d, some (.list (ps.map dF)), some (dPs [l, m]), some (.list (pm.map dF ++ [.tuple [.int 7, .int 1]])), some (dP pm), some (dP l)] = some (dP pm) := lst_of (callN_of (cons_of rfl (cons_of rfl rfl)) rfl pr)
    exact or_of (gB_of (g2_of rfl rfl e1)) (gB_of (g2_of e3 rfl e2))
  refine seq_st [some (.list (ns.map .int)), some (.list (cs.map .int)), some (.int ct), some (dP l), some (dP m), some (.int (B1 : Nat)), some (.int (B2 : Nat)), some (.list (ts.map .int)), a, b, c, d, some (.list (ps.map dF)), some (dPs [l, m]), some (.list (pm.map dF ++ [.tuple [.int 7, .int 1]])), some (dP pm), some (.list [])] rfl ?_
  have en : dEq (dP []) (dP []) = some (.bool true) := (eq_dP [] []).trans (by simp)
  have ek : dEq (dP pm) (dP pm) = some (.bool true) := (eq_dP pm pm).trans (by simp)
  refine ret (.bool true) ?_ (.mk rfl rfl)
  exact andV_of (g2_of rfl rfl eqPs) (andV_of (g2_of (lst_of (callN_of (cons_of rfl (cons_of rfl rfl)) rfl pr')) rfl ek)
    (chain_of (lst_of (callN_of (cons_of rfl (cons_of rfl rfl)) rfl pn)) rfl en (lst_of (callN_of (cons_of rfl (cons_of rfl rfl)) rfl pn')) en))
end MyLaw

namespace MyLaw
open PySem L2 Q1
def top (i : Nat) : Stmt := PySem.Challenge.pw_lotdraw_k04_products.main.body.getD i (.Pass ⟨0, 0, 0, 0⟩)
abbrev s_frac : Stmt := top 7
theorem sc_frac : FnScope ["top", "bottom", "shared"] ["top", "bottom"] (defScope s_frac) := ⟨rfl, rfl, rfl, by decide +kernel, rfl, by decide +kernel, by decide +kernel⟩
abbrev s_greatest_divisor : Stmt := top 8
theorem sc_greatest_divisor : FnScope ["one", "other", "rest", "pair"] ["one", "other"] (defScope s_greatest_divisor) := ⟨rfl, rfl, rfl, by decide +kernel, rfl, by decide +kernel, by decide +kernel⟩
abbrev s_leap : Stmt := top 9
theorem sc_leap : FnScope ["one", "other", "cut", "upper", "lower", "many", "rest"] ["one", "other"] (defScope s_leap) := ⟨rfl, rfl, rfl, by decide +kernel, rfl, by decide +kernel, by decide +kernel⟩
abbrev s_product : Stmt := top 12
theorem sc_product : FnScope ["one", "other", "one_bottom", "other_bottom", "tops", "bottom"] ["one", "other"] (defScope s_product) := ⟨rfl, rfl, rfl, by decide +kernel, rfl, by decide +kernel, by decide +kernel⟩
abbrev s_trimmed : Stmt := top 13
theorem sc_trimmed : FnScope ["fractions", "kept"] ["fractions"] (defScope s_trimmed) := ⟨rfl, rfl, rfl, by decide +kernel, rfl, by decide +kernel, by decide +kernel⟩
abbrev s_common_bottom : Stmt := top 14
theorem sc_common_bottom : FnScope ["fractions", "common", "fraction"] ["fractions"] (defScope s_common_bottom) := ⟨rfl, rfl, rfl, by decide +kernel, rfl, by decide +kernel, by decide +kernel⟩
abbrev s_tops_over : Stmt := top 15
theorem sc_tops_over : FnScope ["fractions", "bottom"] ["fractions", "bottom"] (defScope s_tops_over) := ⟨rfl, rfl, rfl, by decide +kernel, rfl, by decide +kernel, by decide +kernel⟩
abbrev s_product_of_tops : Stmt := top 16
theorem sc_product_of_tops : FnScope ["ones", "others", "tops", "place", "top", "shift", "other_top"] ["ones", "others"] (defScope s_product_of_tops) := ⟨rfl, rfl, rfl, by decide +kernel, rfl, by decide +kernel, by decide +kernel⟩
abbrev s_law_cell : Stmt := top 18
theorem sc_law_cell : FnScope ["_law_script", "_law_k"] ["_law_script", "_law_k"] (defScope s_law_cell) := ⟨rfl, rfl, rfl, by decide +kernel, rfl, by decide +kernel, by decide +kernel⟩
abbrev s_law_whole : Stmt := top 19
theorem sc_law_whole : FnScope ["_law_found"] ["_law_found"] (defScope s_law_whole) := ⟨rfl, rfl, rfl, by decide +kernel, rfl, by decide +kernel, by decide +kernel⟩
abbrev s_law_divisor : Stmt := top 20
theorem sc_law_divisor : FnScope ["_law_one", "_law_other"] ["_law_one", "_law_other"] (defScope s_law_divisor) := ⟨rfl, rfl, rfl, by decide +kernel, rfl, by decide +kernel, by decide +kernel⟩
abbrev s_law_is_frac : Stmt := top 21
theorem sc_law_is_frac : FnScope ["_law_found", "_law_top", "_law_bottom"] ["_law_found", "_law_top", "_law_bottom"] (defScope s_law_is_frac) := ⟨rfl, rfl, rfl, by decide +kernel, rfl, by decide +kernel, by decide +kernel⟩
abbrev s_law_made : Stmt := top 22
theorem sc_law_made : FnScope ["_law_top", "_law_bottom", "_law_common_here"] ["_law_top", "_law_bottom"] (defScope s_law_made) := ⟨rfl, rfl, rfl, by decide +kernel, rfl, by decide +kernel, by decide +kernel⟩
abbrev s_law_frac : Stmt := top 23
theorem sc_law_frac : FnScope ["_law_cell_here", "_law_way", "_law_rest"] ["_law_cell_here"] (defScope s_law_frac) := ⟨rfl, rfl, rfl, by decide +kernel, rfl, by decide +kernel, by decide +kernel⟩
abbrev s_law_poly : Stmt := top 24
theorem sc_law_poly : FnScope ["_law_cells", "_law_row"] ["_law_cells"] (defScope s_law_poly) := ⟨rfl, rfl, rfl, by decide +kernel, rfl, by decide +kernel, by decide +kernel⟩
abbrev s_law_is_row : Stmt := top 25
theorem sc_law_is_row : FnScope ["_law_found", "_law_pairs", "_law_many", "_law_k"] ["_law_found", "_law_pairs"] (defScope s_law_is_row) := ⟨rfl, rfl, rfl, by decide +kernel, rfl, by decide +kernel, by decide +kernel⟩
abbrev s_law_common : Stmt := top 26
theorem sc_law_common : FnScope ["_law_row", "_law_common_here", "_law_part"] ["_law_row"] (defScope s_law_common) := ⟨rfl, rfl, rfl, by decide +kernel, rfl, by decide +kernel, by decide +kernel⟩
abbrev s_law : Stmt := top 27
theorem sc_law : FnScope ["_law_script", "_law_cells", "_law_cut", "_law_one", "_law_other", "_law_first", "_law_second", "_law_tops", "_law_k", "_law_j", "_law_left", "_law_right", "_law_pairs", "_law_handed", "_law_found", "_law_kept", "_law_told"] ["_law_script"] (defScope s_law) := ⟨rfl, rfl, rfl, by decide +kernel, rfl, by decide +kernel, by decide +kernel⟩
section
variable {P : Program} {w : World} {K : PySem.W.Frag} {mg : Str → Option Value} {base : Heap}
theorem ok_greatest_divisor (F : Df K mg "greatest_divisor" s_greatest_divisor ["one", "other"]) (B : Bs mg) (C_LONG : Cn mg "LONG" (.int (4000))) : Dn P w K mg base 1 "greatest_divisor" ["one", "other"] (spD K 2 G_greatest_divisor) :=
  pd_def [] g_greatest_divisor F sc_greatest_divisor fun f cdv A outer s H E hr => (pd_seq (pd_set (ps_set (i := 0) sc_greatest_divisor.nd rfl (Or.inl rfl) (pd_callB call_abs imp_abs rfl B.abs bt_abs (pd_shcons (pd_own (pv 0)) pd_shnil))))
    (pd_seq (pd_set (ps_set (i := 1) sc_greatest_divisor.nd rfl (Or.inl rfl) (pd_callB call_abs imp_abs rfl B.abs bt_abs (pd_shcons (pd_own (pv 1)) pd_shnil))))
    (pd_seq (pd_while PassesOwn.never (pd_tcmp (op_neH hr) imp_ne (pd_own (pv 1)) (PE.sh (pd_int pe_int)) (nomark _)) (pd_seq (pd_set (ps_set (i := 2) sc_greatest_divisor.nd rfl (Or.inl rfl) (pd_op op_modN imp_Ic (pd_own (pv 0)) (pd_own (pv 1)))))
    (pd_seq (pd_set (ps_set (i := 0) sc_greatest_divisor.nd rfl (Or.inl rfl) (pd_var (pv 1))))
    (pd_seq (pd_set (ps_set (i := 1) sc_greatest_divisor.nd rfl (Or.inl rfl) (pd_var (pv 2))))
    (pd_one (pd_if (pd_tcmp op_gt imp_Ib (PE.sh (pd_bits (pd_own (pv 1)))) (PE.sh (pd_int (pe_cn C_LONG))) (nomark _)) pd_nevers pd_nil))))))
    (pd_one (pd_ret (pd_var (pv 0)))))))
theorem ok_frac (F : Df K mg "frac" s_frac ["top", "bottom"]) (B : Bs mg) (D_greatest_divisor : Dn P w K mg base 1 "greatest_divisor" ["one", "other"] (spD K 2 G_greatest_divisor)) : Dn P w K mg base 2 "frac" ["top", "bottom"] (spD K 2 G_frac) :=
  pd_def [] g_frac F sc_frac fun f cdv A outer s H E hr => (pd_seq (pd_if (pd_tcmp (op_eqH hr) imp_eq (pd_own (pv 1)) (PE.sh (pd_int pe_int)) (nomark _)) (pd_one pd_never) pd_nil)
    (pd_seq (pd_set (ps_set (i := 2) sc_frac.nd rfl (Or.inl rfl) (pd_call D_greatest_divisor hr (by decide) (pd_acons (pd_var (pv 0)) (pd_acons (pd_var (pv 1)) pd_anil)))))
    (pd_seq (pd_if (pd_tcmp op_lt imp_Ib (pd_own (pv 1)) (PE.sh (pd_int pe_int)) (nomark _)) (pd_one (pd_set (ps_set (i := 2) sc_frac.nd rfl (Or.inl rfl) (pd_neg (pd_own (pv 2)))))) pd_nil)
    (pd_one (pd_ret (pd_tup (pd_acons (pd_op op_fdivS imp_Ic (pd_own (pv 0)) (pd_own (pv 2))) (pd_acons (pd_op op_fdivS imp_Ic (pd_own (pv 1)) (pd_own (pv 2))) pd_anil))))))))
theorem ok_common_bottom (F : Df K mg "common_bottom" s_common_bottom ["fractions"]) (B : Bs mg) (D_greatest_divisor : Dn P w K mg base 1 "greatest_divisor" ["one", "other"] (spD K 2 G_greatest_divisor)) : Dn P w K mg base 2 "common_bottom" ["fractions"] (spD K 1 G_common_bottom) :=
  pd_def [] g_common_bottom F sc_common_bottom fun f cdv A outer s H E hr => (pd_seq (pd_set (ps_set (i := 1) sc_common_bottom.nd rfl (Or.inl rfl) (pd_int pe_int)))
    (pd_seq (pd_for PassesOwn.never rfl (pd_iseq (pd_var (pv 0))) (pd_gname (pg_name (i := 2) sc_common_bottom.nd rfl (Or.inl rfl)))
      (pd_one (pd_set (ps_set (i := 1) sc_common_bottom.nd rfl (Or.inl rfl) (pd_op op_mulB imp_Ic (PE.sh (pd_op op_fdivS imp_Ic (pd_own (pv 1)) (PE.sh (pd_call D_greatest_divisor hr (by decide) (pd_acons (pd_var (pv 1)) (pd_acons (pd_ix (pd_own (pv 2)) (PE.sh (pd_int pe_int))) pd_anil)))))) (PE.sh (pd_ix (pd_own (pv 2)) (PE.sh (pd_int pe_int)))))))))
    (pd_one (pd_ret (pd_var (pv 1))))))
theorem ok_product_of_tops (F : Df K mg "product_of_tops" s_product_of_tops ["ones", "others"]) (B : Bs mg) : Dn P w K mg base 1 "product_of_tops" ["ones", "others"] (spN K 2 G_product_of_tops) :=
  pd_defN [2] g_product_of_tops F sc_product_of_tops fun f cdv A outer s H E hr => (pd_seq (pd_setN (ps_set (i := 2) sc_product_of_tops.nd rfl (Or.inl rfl) (pd_repN (pd_lst (pd_acons (pd_int pe_int) pd_anil)) (PE.sh (pd_op op_addU imp_add (PE.sh (pd_callB call_lenU imp_len rfl B.len bt_len (pd_shcons (pd_own (pv 0)) pd_shnil))) (PE.sh (pd_callB call_lenU imp_len rfl B.len bt_len (pd_shcons (pd_own (pv 1)) pd_shnil))))))))
    (pd_seq (pd_for PassesOwn.never rfl (pd_enumerate B.enumerate (pd_var (pv 0))) (pd_gtup rfl (pd_gcons (pd_gname (pg_name (i := 3) sc_product_of_tops.nd rfl (Or.inl rfl))) (pd_gcons (pd_gname (pg_name (i := 4) sc_product_of_tops.nd rfl (Or.inl rfl))) pd_gnil)))
      (pd_one (pd_for PassesOwn.never rfl (pd_enumerate B.enumerate (pd_var (pv 1))) (pd_gtup rfl (pd_gcons (pd_gname (pg_name (i := 5) sc_product_of_tops.nd rfl (Or.inl rfl))) (pd_gcons (pd_gname (pg_name (i := 6) sc_product_of_tops.nd rfl (Or.inl rfl))) pd_gnil)))
      (pd_one (pd_augIx (ps_augS (pv 2) (PE.sh (pd_op op_addU imp_add (pd_own (pv 3)) (pd_own (pv 5)))) get_own (PE.sh (pd_op op_mulB imp_Ic (pd_own (pv 4)) (pd_own (pv 6)))) ip_add set_list))))))
    (pd_one (pd_retOwn (pv 2)))))
theorem ok_tops_over (F : Df K mg "tops_over" s_tops_over ["fractions", "bottom"]) (B : Bs mg) : Dn P w K mg base 1 "tops_over" ["fractions", "bottom"] (spN K 2 G_tops_over) :=
  pd_defN [] g_tops_over F sc_tops_over fun f cdv A outer s H E hr => (pd_one (pd_retN (pd_comp (defScope s_tops_over) ["fractions", "bottom"] [1] ["fraction", "bottom"] (pd_iseq (pd_var (pv 0))) (fun _ _ _ _ _ _ => (pd_op op_mulB imp_Ic (PE.sh (pd_ix (pd_own (pv 0)) (PE.sh (pd_int pe_int)))) (PE.sh (pd_op op_fdivS imp_Ic (pd_own (pv 1)) (PE.sh (pd_ix (pd_own (pv 0)) (PE.sh (pd_int pe_int)))))))))))
theorem ok_trimmed (F : Df K mg "trimmed" s_trimmed ["fractions"]) (B : Bs mg) {pNOUGHT : Addr} (C_NOUGHT : Cn mg "NOUGHT" (.ref pNOUGHT)) (S_NOUGHT : ∀ H : Hp, HD K H (.ref pNOUGHT) (.tuple [(.int (0)), (.int (1))])) : Dn P w K mg base 1 "trimmed" ["fractions"] (spN K 1 G_trimmed) :=
  pd_defN [1] g_trimmed F sc_trimmed fun f cdv A outer s H E hr => (pd_seq (pd_setN (ps_set (i := 1) sc_trimmed.nd rfl (Or.inl rfl) (pd_callTyN call_list_of imp_list rfl B.list bt_list (pd_shcons (pd_own (pv 0)) pd_shnil))))
    (pd_seq (pd_while PassesOwn.never (PW.pt (pd_tand (pd_tcmp op_gt imp_Ib (PE.sh (pd_callB call_lenU imp_len rfl B.len bt_len (pd_shcons (pd_own (pv 1)) pd_shnil))) (PE.sh (pd_int pe_int)) (nomark _)) (pw_and1 (pd_tcmp (op_eqH hr) imp_eq (PE.sh (pd_ix (pd_own (pv 1)) (PE.sh (pd_neg (PE.sh (pd_int pe_int)))))) (PE.sh (pd_c (pe_cn C_NOUGHT) S_NOUGHT)) (nomark _))))) (pd_one (pd_pop (ps_expr (pe_bm0 PySem.F.plainAttrs_list PySem.F.slot_list_pop PySem.F.type_list_pop mt_pop (pv 1))))))
    (pd_one (pd_retOwn (pv 1)))))
theorem ok_product (F : Df K mg "product" s_product ["one", "other"]) (B : Bs mg) (D_common_bottom : Dn P w K mg base 2 "common_bottom" ["fractions"] (spD K 1 G_common_bottom)) (D_frac : Dn P w K mg base 2 "frac" ["top", "bottom"] (spD K 2 G_frac)) (D_product_of_tops : Dn P w K mg base 1 "product_of_tops" ["ones", "others"] (spN K 2 G_product_of_tops)) (D_tops_over : Dn P w K mg base 1 "tops_over" ["fractions", "bottom"] (spN K 2 G_tops_over)) (D_trimmed : Dn P w K mg base 1 "trimmed" ["fractions"] (spN K 1 G_trimmed)) : Dn P w K mg base 3 "product" ["one", "other"] (spN K 2 G_product) :=
  pd_defN [] g_product F sc_product fun f cdv A outer s H E hr => (pd_seq (pd_set (ps_set (i := 2) sc_product.nd rfl (Or.inl rfl) (pd_call D_common_bottom hr (by decide) (pd_acons (pd_var (pv 0)) pd_anil))))
    (pd_seq (pd_set (ps_set (i := 3) sc_product.nd rfl (Or.inl rfl) (pd_call D_common_bottom hr (by decide) (pd_acons (pd_var (pv 1)) pd_anil))))
    (pd_seq (pd_set (ps_set (i := 4) sc_product.nd rfl (Or.inl rfl) (PE.nE (pd_callN D_product_of_tops hr (by decide) (pd_acons (PE.nE (pd_callN D_tops_over hr (by decide) (pd_acons (pd_var (pv 0)) (pd_acons (pd_var (pv 2)) pd_anil)))) (pd_acons (PE.nE (pd_callN D_tops_over hr (by decide) (pd_acons (pd_var (pv 1)) (pd_acons (pd_var (pv 3)) pd_anil)))) pd_anil))))))
    (pd_seq (pd_set (ps_set (i := 5) sc_product.nd rfl (Or.inr rfl) (pd_op op_mulB imp_Ic (pd_own (pv 2)) (pd_own (pv 3)))))
    (pd_one (pd_retN (pd_callN D_trimmed hr (by decide) (pd_acons (PE.nE (pd_comp (defScope s_product) ["one", "other", "one_bottom", "other_bottom", "tops", "bottom"] [5] ["top", "bottom"] (pd_iseq (pd_var (pv 4))) (fun _ _ _ _ _ _ => (pd_call D_frac hr (by decide) (pd_acons (pd_var (pv 0)) (pd_acons (pd_var (pv 1)) pd_anil)))))) pd_anil))))))))
theorem ok_law_cell (F : Df K mg "_law_cell" s_law_cell ["_law_script", "_law_k"]) (B : Bs mg) : Dn P w K mg base 1 "_law_cell" ["_law_script", "_law_k"] (spD K 2 G_law_cell) :=
  pd_def [] g_law_cell F sc_law_cell fun f cdv A outer s H E hr => (pd_seq (pd_if (pd_tcmp op_lt imp_Ib (pd_own (pv 1)) (PE.sh (pd_callB call_lenU imp_len rfl B.len bt_len (pd_shcons (pd_own (pv 0)) pd_shnil))) (nomark _)) (pd_one (pd_ret (pd_ix (pd_own (pv 0)) (pd_own (pv 1))))) pd_nil)
    (pd_one (pd_ret (pd_int pe_int))))
theorem ok_law_whole (F : Df K mg "_law_whole" s_law_whole ["_law_found"]) (B : Bs mg) : Dn P w K mg base 1 "_law_whole" ["_law_found"] (spD K 1 G_law_whole) :=
  pd_def [] g_law_whole F sc_law_whole fun f cdv A outer s H E hr => (pd_one (pd_ret (pd_and (pd_isi "int" B.isinstance (pd_own (pv 0)) (pe_bltn rfl B.int bt_int (v := .ty "int") rfl)) (pe_one (pd_not (PE.sh (pd_isi "bool" B.isinstance (pd_own (pv 0)) (pe_bltn rfl B.bool bt_bool (v := .ty "bool") rfl))))))))
theorem ok_law_divisor (F : Df K mg "_law_divisor" s_law_divisor ["_law_one", "_law_other"]) (B : Bs mg) : Dn P w K mg base 1 "_law_divisor" ["_law_one", "_law_other"] (spD K 2 G_law_divisor) :=
  pd_def [] g_law_divisor F sc_law_divisor fun f cdv A outer s H E hr => (pd_seq (pd_while PassesOwn.never (pd_tcmp (op_neH hr) imp_ne (pd_own (pv 1)) (PE.sh (pd_int pe_int)) (nomark _)) (pd_one (pd_par (ps_par (i := 0) (j := 1) rfl sc_law_divisor.nd rfl rfl (by decide) rfl rfl (pd_acons (pd_var (pv 1)) (pd_acons (pd_op op_modN imp_Ic (pd_own (pv 0)) (pd_own (pv 1))) pd_anil)) rfl))))
    (pd_one (pd_ret (pd_callB call_abs imp_abs rfl B.abs bt_abs (pd_shcons (pd_own (pv 0)) pd_shnil)))))
theorem ok_law_is_frac (F : Df K mg "_law_is_frac" s_law_is_frac ["_law_found", "_law_top", "_law_bottom"]) (B : Bs mg) (D_law_divisor : Dn P w K mg base 1 "_law_divisor" ["_law_one", "_law_other"] (spD K 2 G_law_divisor)) (D_law_whole : Dn P w K mg base 1 "_law_whole" ["_law_found"] (spD K 1 G_law_whole)) : Dn P w K mg base 2 "_law_is_frac" ["_law_found", "_law_top", "_law_bottom"] (spD K 3 G_law_is_frac) :=
  pd_def [] g_law_is_frac F sc_law_is_frac fun f cdv A outer s H E hr => (pd_seq (pd_if (PW.pt (pd_tor (pd_tnot (pd_truth (PE.sh (pd_isi "tuple" B.isinstance (pd_own (pv 0)) (pe_bltn rfl B.tuple bt_tuple (v := .ty "tuple") rfl))))) (pd_tor (pd_tcmp (op_neH hr) imp_ne (PE.sh (pd_callB call_lenU imp_len rfl B.len bt_len (pd_shcons (pd_own (pv 0)) pd_shnil))) (PE.sh (pd_int pe_int)) (nomark _)) (pd_tor (pd_tnot (pd_truth (PE.sh (pd_call D_law_whole hr (by decide) (pd_acons (pd_ix (pd_own (pv 0)) (PE.sh (pd_int pe_int))) pd_anil))))) (pw_or1 (pd_tnot (pd_truth (PE.sh (pd_call D_law_whole hr (by decide) (pd_acons (pd_ix (pd_own (pv 0)) (PE.sh (pd_int pe_int))) pd_anil)))))))))) (pd_one (pd_ret (pd_bl pe_bl))) pd_nil)
    (pd_seq (pd_if (PW.pt (pd_tor (pd_tcmp op_lt imp_Ib (PE.sh (pd_ix (pd_own (pv 0)) (PE.sh (pd_int pe_int)))) (PE.sh (pd_int pe_int)) (nomark _)) (pw_or1 (pd_tcmp (op_neH hr) imp_ne (PE.sh (pd_call D_law_divisor hr (by decide) (pd_acons (pd_ix (pd_own (pv 0)) (PE.sh (pd_int pe_int))) (pd_acons (pd_ix (pd_own (pv 0)) (PE.sh (pd_int pe_int))) pd_anil)))) (PE.sh (pd_int pe_int)) (nomark _))))) (pd_one (pd_ret (pd_bl pe_bl))) pd_nil)
    (pd_one (pd_ret (pd_cmp (op_eqH hr) imp_eq (PE.sh (pd_op op_mulB imp_Ic (PE.sh (pd_ix (pd_own (pv 0)) (PE.sh (pd_int pe_int)))) (pd_own (pv 2)))) (PE.sh (pd_op op_mulB imp_Ic (pd_own (pv 1)) (PE.sh (pd_ix (pd_own (pv 0)) (PE.sh (pd_int pe_int)))))) (nomark _))))))
theorem ok_law_made (F : Df K mg "_law_made" s_law_made ["_law_top", "_law_bottom"]) (B : Bs mg) (D_law_divisor : Dn P w K mg base 1 "_law_divisor" ["_law_one", "_law_other"] (spD K 2 G_law_divisor)) : Dn P w K mg base 2 "_law_made" ["_law_top", "_law_bottom"] (spD K 2 G_law_made) :=
  pd_def [] g_law_made F sc_law_made fun f cdv A outer s H E hr => (pd_seq (pd_set (ps_set (i := 2) sc_law_made.nd rfl (Or.inl rfl) (pd_call D_law_divisor hr (by decide) (pd_acons (pd_var (pv 0)) (pd_acons (pd_var (pv 1)) pd_anil)))))
    (pd_one (pd_ret (pd_tup (pd_acons (pd_op op_fdivS imp_Ic (pd_own (pv 0)) (pd_own (pv 2))) (pd_acons (pd_op op_fdivS imp_Ic (pd_own (pv 1)) (pd_own (pv 2))) pd_anil))))))
theorem ok_law_frac (F : Df K mg "_law_frac" s_law_frac ["_law_cell_here"]) (B : Bs mg) (D_law_made : Dn P w K mg base 2 "_law_made" ["_law_top", "_law_bottom"] (spD K 2 G_law_made)) : Dn P w K mg base 3 "_law_frac" ["_law_cell_here"] (spD K 1 G_law_frac) :=
  pd_def [] g_law_frac F sc_law_frac fun f cdv A outer s H E hr => (pd_seq (pd_set (ps_set (i := 1) sc_law_frac.nd rfl (Or.inl rfl) (pd_op op_modN imp_Ic (pd_own (pv 0)) (PE.sh (pd_int pe_int)))))
    (pd_seq (pd_set (ps_set (i := 2) sc_law_frac.nd rfl (Or.inl rfl) (pd_op op_fdivS imp_Ic (pd_own (pv 0)) (PE.sh (pd_int pe_int)))))
    (pd_seq (pd_if (pd_tcmp (op_eqH hr) imp_eq (pd_own (pv 1)) (PE.sh (pd_int pe_int)) (nomark _)) (pd_one (pd_ret (pd_call D_law_made hr (by decide) (pd_acons (pd_op op_sub imp_I (PE.sh (pd_op op_modN imp_Ic (pd_own (pv 2)) (PE.sh (pd_int pe_int)))) (PE.sh (pd_int pe_int))) (pd_acons (pd_op op_addU imp_add (PE.sh (pd_int pe_int)) (PE.sh (pd_op op_modN imp_Ic (PE.sh (pd_op op_fdivS imp_Ic (pd_own (pv 2)) (PE.sh (pd_int pe_int)))) (PE.sh (pd_int pe_int))))) pd_anil))))) pd_nil)
    (pd_seq (pd_if (pd_tcmp (op_eqH hr) imp_eq (pd_own (pv 1)) (PE.sh (pd_int pe_int)) (nomark _)) (pd_one (pd_ret (pd_call D_law_made hr (by decide) (pd_acons (pd_op op_sub imp_I (PE.sh (pd_op op_modN imp_Ic (pd_own (pv 2)) (PE.sh (pd_op op_addU imp_add (PE.sh (pd_op op_mulB imp_Ic (PE.sh (pd_int pe_int)) (PE.sh (pd_op op_pow imp_Ic (PE.sh (pd_int pe_int)) (PE.sh (pd_int pe_int)))))) (PE.sh (pd_int pe_int)))))) (PE.sh (pd_op op_pow imp_Ic (PE.sh (pd_int pe_int)) (PE.sh (pd_int pe_int))))) (pd_acons (pd_op op_addU imp_add (PE.sh (pd_int pe_int)) (PE.sh (pd_op op_modN imp_Ic (PE.sh (pd_op op_fdivS imp_Ic (pd_own (pv 2)) (PE.sh (pd_op op_addU imp_add (PE.sh (pd_op op_mulB imp_Ic (PE.sh (pd_int pe_int)) (PE.sh (pd_op op_pow imp_Ic (PE.sh (pd_int pe_int)) (PE.sh (pd_int pe_int)))))) (PE.sh (pd_int pe_int)))))) (PE.sh (pd_op op_pow imp_Ic (PE.sh (pd_int pe_int)) (PE.sh (pd_int pe_int))))))) pd_anil))))) pd_nil)
    (pd_seq (pd_if (pd_tcmp (op_eqH hr) imp_eq (pd_own (pv 1)) (PE.sh (pd_int pe_int)) (nomark _)) (pd_one (pd_ret (pd_ix (PE.sh (PE.nE (pd_lst (pd_acons (pd_tup (pd_acons (pd_int pe_int) (pd_acons (pd_int pe_int) pd_anil))) (pd_acons (pd_tup (pd_acons (pd_int pe_int) (pd_acons (pd_int pe_int) pd_anil))) (pd_acons (pd_tup (pd_acons (pd_neg (PE.sh (pd_int pe_int))) (pd_acons (pd_int pe_int) pd_anil))) (pd_acons (pd_tup (pd_acons (pd_int pe_int) (pd_acons (pd_int pe_int) pd_anil))) pd_anil))))))) (PE.sh (pd_op op_modN imp_Ic (pd_own (pv 2)) (PE.sh (pd_int pe_int))))))) pd_nil)
    (pd_one (pd_ret (pd_call D_law_made hr (by decide) (pd_acons (pd_op op_sub imp_I (PE.sh (pd_op op_modN imp_Ic (PE.sh (pd_op op_addU imp_add (PE.sh (pd_op op_mulB imp_Ic (pd_own (pv 2)) (PE.sh (pd_int pe_int)))) (PE.sh (pd_int pe_int)))) (PE.sh (pd_int pe_int)))) (PE.sh (pd_op op_pow imp_Ic (PE.sh (pd_int pe_int)) (PE.sh (pd_int pe_int))))) (pd_acons (pd_op op_addU imp_add (PE.sh (pd_int pe_int)) (PE.sh (pd_op op_modN imp_Ic (PE.sh (pd_op op_modN imp_Ic (PE.sh (pd_op op_addU imp_add (PE.sh (pd_op op_mulB imp_Ic (pd_own (pv 2)) (PE.sh (pd_int pe_int)))) (PE.sh (pd_int pe_int)))) (PE.sh (pd_int pe_int)))) (PE.sh (pd_op op_pow imp_Ic (PE.sh (pd_int pe_int)) (PE.sh (pd_int pe_int))))))) pd_anil))))))))))
theorem ok_law_poly (F : Df K mg "_law_poly" s_law_poly ["_law_cells"]) (B : Bs mg) (D_law_frac : Dn P w K mg base 3 "_law_frac" ["_law_cell_here"] (spD K 1 G_law_frac)) : Dn P w K mg base 4 "_law_poly" ["_law_cells"] (spN K 1 G_law_poly) :=
  pd_defN [1] g_law_poly F sc_law_poly fun f cdv A outer s H E hr => (pd_seq (pd_setN (pd_setC (i := 1) (defScope s_law_poly) ["_law_cells", "_law_row"] [] ["_law_cell_here"] sc_law_poly.nd rfl rfl (pd_iseq (pd_var (pv 0))) (fun _ _ _ _ _ _ => (pd_call D_law_frac hr (by decide) (pd_acons (pd_var (pv 0)) pd_anil)))))
    (pd_seq (pd_while PassesOwn.never (PW.pt (pd_tand (pd_tcmp op_gt imp_Ib (PE.sh (pd_callB call_lenU imp_len rfl B.len bt_len (pd_shcons (pd_own (pv 1)) pd_shnil))) (PE.sh (pd_int pe_int)) (nomark _)) (pw_and1 (pd_tcmp (op_eqH hr) imp_eq (PE.sh (pd_ix (pd_own (pv 1)) (PE.sh (pd_neg (PE.sh (pd_int pe_int)))))) (PE.sh (pd_tup (pd_acons (pd_int pe_int) (pd_acons (pd_int pe_int) pd_anil)))) (nomark _))))) (pd_one (pd_pop (ps_expr (pe_bm0 PySem.F.plainAttrs_list PySem.F.slot_list_pop PySem.F.type_list_pop mt_pop (pv 1))))))
    (pd_one (pd_retOwn (pv 1)))))
theorem ok_law_is_row (F : Df K mg "_law_is_row" s_law_is_row ["_law_found", "_law_pairs"]) (B : Bs mg) (D_law_is_frac : Dn P w K mg base 2 "_law_is_frac" ["_law_found", "_law_top", "_law_bottom"] (spD K 3 G_law_is_frac)) : Dn P w K mg base 3 "_law_is_row" ["_law_found", "_law_pairs"] (spD K 2 G_law_is_row) :=
  pd_def [] g_law_is_row F sc_law_is_row fun f cdv A outer s H E hr => (pd_seq (pd_set (ps_set (i := 2) sc_law_is_row.nd rfl (Or.inl rfl) (pd_callB call_lenU imp_len rfl B.len bt_len (pd_shcons (pd_own (pv 1)) pd_shnil))))
    (pd_seq (pd_while PassesOwn.never (PW.pt (pd_tand (pd_tcmp op_gt imp_Ib (pd_own (pv 2)) (PE.sh (pd_int pe_int)) (nomark _)) (pw_and1 (pd_tcmp (op_eqH hr) imp_eq (PE.sh (pd_ix (PE.sh (pd_ix (pd_own (pv 1)) (PE.sh (pd_op op_sub imp_I (pd_own (pv 2)) (PE.sh (pd_int pe_int)))))) (PE.sh (pd_int pe_int)))) (PE.sh (pd_int pe_int)) (nomark _))))) (pd_one (pd_set (ps_set (i := 2) sc_law_is_row.nd rfl (Or.inl rfl) (pd_op op_sub imp_I (pd_own (pv 2)) (PE.sh (pd_int pe_int)))))))
    (pd_seq (pd_if (PW.pt (pd_tor (pd_tnot (pd_truth (PE.sh (pd_isi "list" B.isinstance (pd_own (pv 0)) (pe_bltn rfl B.list bt_list (v := .ty "list") rfl))))) (pw_or1 (pd_tcmp (op_neH hr) imp_ne (PE.sh (pd_callB call_lenU imp_len rfl B.len bt_len (pd_shcons (pd_own (pv 0)) pd_shnil))) (pd_own (pv 2)) (nomark _))))) (pd_one (pd_ret (pd_bl pe_bl))) pd_nil)
    (pd_seq (pd_for PassesOwn.never rfl (pd_range1 B.range (pd_acons (pd_var (pv 2)) pd_anil)) (pd_gname (pg_name (i := 3) sc_law_is_row.nd rfl (Or.inl rfl)))
      (pd_one (pd_if (pd_tnot (pd_truth (PE.sh (pd_call D_law_is_frac hr (by decide) (pd_acons (pd_ix (pd_own (pv 0)) (pd_own (pv 3))) (pd_acons (pd_ix (PE.sh (pd_ix (pd_own (pv 1)) (pd_own (pv 3)))) (PE.sh (pd_int pe_int))) (pd_acons (pd_ix (PE.sh (pd_ix (pd_own (pv 1)) (pd_own (pv 3)))) (PE.sh (pd_int pe_int))) pd_anil))))))) (pd_one (pd_ret (pd_bl pe_bl))) pd_nil)))
    (pd_one (pd_ret (pd_bl pe_bl)))))))
theorem ok_law_common (F : Df K mg "_law_common" s_law_common ["_law_row"]) (B : Bs mg) (D_law_divisor : Dn P w K mg base 1 "_law_divisor" ["_law_one", "_law_other"] (spD K 2 G_law_divisor)) : Dn P w K mg base 2 "_law_common" ["_law_row"] (spD K 1 G_law_common) :=
  pd_def [] g_law_common F sc_law_common fun f cdv A outer s H E hr => (pd_seq (pd_set (ps_set (i := 1) sc_law_common.nd rfl (Or.inl rfl) (pd_int pe_int)))
    (pd_seq (pd_for PassesOwn.never rfl (pd_iseq (pd_var (pv 0))) (pd_gname (pg_name (i := 2) sc_law_common.nd rfl (Or.inl rfl)))
      (pd_one (pd_set (ps_set (i := 1) sc_law_common.nd rfl (Or.inl rfl) (pd_op op_fdivS imp_Ic (PE.sh (pd_op op_mulB imp_Ic (pd_own (pv 1)) (PE.sh (pd_ix (pd_own (pv 2)) (PE.sh (pd_int pe_int)))))) (PE.sh (pd_call D_law_divisor hr (by decide) (pd_acons (pd_var (pv 1)) (pd_acons (pd_ix (pd_own (pv 2)) (PE.sh (pd_int pe_int))) pd_anil)))))))))
    (pd_one (pd_ret (pd_var (pv 1))))))
theorem ok_law {f : Addr} {fd : FuncData} (F : Fun K "law" "law" s_law f fd) (B : Bs mg) (D_law_cell : Dn P w K mg base 1 "_law_cell" ["_law_script", "_law_k"] (spD K 2 G_law_cell)) (D_law_common : Dn P w K mg base 2 "_law_common" ["_law_row"] (spD K 1 G_law_common)) (D_law_is_row : Dn P w K mg base 3 "_law_is_row" ["_law_found", "_law_pairs"] (spD K 2 G_law_is_row)) (D_law_poly : Dn P w K mg base 4 "_law_poly" ["_law_cells"] (spN K 1 G_law_poly)) (D_product : Dn P w K mg base 3 "product" ["one", "other"] (spN K 2 G_product)) : FnOk P w K mg base CX0 5 f fd ["_law_script"] (spD K 1 G_law) :=
  pd_fn [7, 14, 16] g_law F sc_law fun f cdv A outer s H E hr => (pd_seq (pd_set (ps_set (i := 1) sc_law.nd rfl (Or.inl rfl) (PE.nE (pd_slL (pd_own (pv 0)) (pd_psome (PE.sh (pd_int pe_int))) (pd_psome (PE.sh (pd_int pe_int)))))))
    (pd_seq (pd_set (ps_set (i := 2) sc_law.nd rfl (Or.inl rfl) (pd_op op_modN imp_Ic (PE.sh (pd_call D_law_cell hr (by decide) (pd_acons (pd_var (pv 0)) (pd_acons (pd_int pe_int) pd_anil)))) (PE.sh (pd_op op_addU imp_add (PE.sh (pd_callB call_lenU imp_len rfl B.len bt_len (pd_shcons (pd_own (pv 1)) pd_shnil))) (PE.sh (pd_int pe_int)))))))
    (pd_seq (pd_set (ps_set (i := 3) sc_law.nd rfl (Or.inl rfl) (PE.nE (pd_callN D_law_poly hr (by decide) (pd_acons (PE.nE (pd_slL (PE.sh (PE.nE (pd_slL (pd_own (pv 1)) pd_pnone (pd_psome (pd_own (pv 2)))))) pd_pnone (pd_psome (PE.sh (pd_int pe_int))))) pd_anil)))))
    (pd_seq (pd_set (ps_set (i := 4) sc_law.nd rfl (Or.inl rfl) (PE.nE (pd_callN D_law_poly hr (by decide) (pd_acons (PE.nE (pd_slL (PE.sh (PE.nE (pd_slL (pd_own (pv 1)) (pd_psome (pd_own (pv 2))) pd_pnone))) pd_pnone (pd_psome (PE.sh (pd_int pe_int))))) pd_anil)))))
    (pd_seq (pd_set (ps_set (i := 5) sc_law.nd rfl (Or.inr rfl) (pd_call D_law_common hr (by decide) (pd_acons (pd_var (pv 3)) pd_anil))))
    (pd_seq (pd_set (ps_set (i := 6) sc_law.nd rfl (Or.inr rfl) (pd_call D_law_common hr (by decide) (pd_acons (pd_var (pv 4)) pd_anil))))
    (pd_seq (pd_setN (pd_setC (i := 7) (defScope s_law) ["_law_script", "_law_cells", "_law_cut", "_law_one", "_law_other", "_law_first", "_law_second", "_law_tops", "_law_k", "_law_j", "_law_left", "_law_right", "_law_pairs", "_law_handed", "_law_found", "_law_kept", "_law_told"] [] ["_law_k"] sc_law.nd rfl rfl (pd_range1 B.range (pd_acons (pd_op op_addU imp_add (PE.sh (pd_callB call_lenU imp_len rfl B.len bt_len (pd_shcons (pd_own (pv 3)) pd_shnil))) (PE.sh (pd_callB call_lenU imp_len rfl B.len bt_len (pd_shcons (pd_own (pv 4)) pd_shnil)))) pd_anil)) (fun _ _ _ _ _ _ => (pd_int pe_int))))
    (pd_seq (pd_for PassesOwn.never rfl (pd_range1 B.range (pd_acons (pd_callB call_lenU imp_len rfl B.len bt_len (pd_shcons (pd_own (pv 3)) pd_shnil)) pd_anil)) (pd_gname (pg_name (i := 8) sc_law.nd rfl (Or.inl rfl)))
      (pd_one (pd_for PassesOwn.never rfl (pd_range1 B.range (pd_acons (pd_callB call_lenU imp_len rfl B.len bt_len (pd_shcons (pd_own (pv 4)) pd_shnil)) pd_anil)) (pd_gname (pg_name (i := 9) sc_law.nd rfl (Or.inl rfl)))
      (pd_seq (pd_set (ps_set (i := 10) sc_law.nd rfl (Or.inl rfl) (pd_op op_mulB imp_Ic (PE.sh (pd_ix (PE.sh (pd_ix (pd_own (pv 3)) (pd_own (pv 8)))) (PE.sh (pd_int pe_int)))) (PE.sh (pd_op op_fdivS imp_Ic (pd_own (pv 5)) (PE.sh (pd_ix (PE.sh (pd_ix (pd_own (pv 3)) (pd_own (pv 8)))) (PE.sh (pd_int pe_int)))))))))
    (pd_seq (pd_set (ps_set (i := 11) sc_law.nd rfl (Or.inl rfl) (pd_op op_mulB imp_Ic (PE.sh (pd_ix (PE.sh (pd_ix (pd_own (pv 4)) (pd_own (pv 9)))) (PE.sh (pd_int pe_int)))) (PE.sh (pd_op op_fdivS imp_Ic (pd_own (pv 6)) (PE.sh (pd_ix (PE.sh (pd_ix (pd_own (pv 4)) (pd_own (pv 9)))) (PE.sh (pd_int pe_int)))))))))
    (pd_one (pd_setIx (ps_asg (pd_op op_addU imp_add (PE.sh (pd_ix (pd_own (pv 7)) (PE.sh (pd_op op_addU imp_add (pd_own (pv 8)) (pd_own (pv 9)))))) (PE.sh (pd_op op_mulB imp_Ic (pd_own (pv 10)) (pd_own (pv 11))))) (pg_sub (pv 7) (PE.sh (pd_op op_addU imp_add (pd_own (pv 8)) (pd_own (pv 9)))) set_list)))))))))
    (pd_seq (pd_set (PS.nE (pd_setCS (i := 12) (defScope s_law) ["_law_script", "_law_cells", "_law_cut", "_law_one", "_law_other", "_law_first", "_law_second", "_law_tops", "_law_k", "_law_j", "_law_left", "_law_right", "_law_pairs", "_law_handed", "_law_found", "_law_kept", "_law_told"] [5, 6] ["_law_top", "_law_first", "_law_second"] sc_law.nd rfl rfl (pd_iown (pd_own (pv 7))) (fun _ _ _ _ _ _ => (pd_tup (pd_acons (pd_var (pv 0)) (pd_acons (pd_op op_mulB imp_Ic (pd_own (pv 1)) (pd_own (pv 2))) pd_anil)))))))
    (pd_seq (pd_set (ps_set (i := 13) sc_law.nd rfl (Or.inl rfl) (PE.nE (pd_lst (pd_acons (PE.nE (pd_callTyN call_list_of imp_list rfl B.list bt_list (pd_shcons (pd_own (pv 3)) pd_shnil))) (pd_acons (PE.nE (pd_callTyN call_list_of imp_list rfl B.list bt_list (pd_shcons (pd_own (pv 4)) pd_shnil))) pd_anil))))))
    (pd_seq (pd_setN (ps_set (i := 14) sc_law.nd rfl (Or.inl rfl) (pd_callN D_product hr (by decide) (pd_acons (pd_ix (pd_own (pv 13)) (PE.sh (pd_int pe_int))) (pd_acons (pd_ix (pd_own (pv 13)) (PE.sh (pd_int pe_int))) pd_anil)))))
    (pd_seq (pd_if (PW.pt (pd_tor (pd_tcmp (op_neH hr) imp_ne (pd_own (pv 13)) (PE.sh (PE.nE (pd_lst (pd_acons (pd_var (pv 3)) (pd_acons (pd_var (pv 4)) pd_anil))))) (nomark _)) (pw_or1 (pd_tnot (pd_truth (PE.sh (pd_callSh D_law_is_row hr (by decide) (pd_shcons (pd_own (pv 14)) (pd_shcons (pd_own (pv 12)) pd_shnil))))))))) (pd_one (pd_ret (pd_bl pe_bl))) pd_nil)
    (pd_seq (pd_set (ps_set (i := 15) sc_law.nd rfl (Or.inl rfl) (PE.nE (pd_callTyN call_list_of imp_list rfl B.list bt_list (pd_shcons (pd_own (pv 14)) pd_shnil)))))
    (pd_seq (pd_append (ps_expr (pe_bm PySem.F.plainAttrs_list PySem.F.slot_list_append PySem.F.type_list_append mt_append (pv 14) (pa_cons (pd_tup (pd_acons (pd_int pe_int) (pd_acons (pd_int pe_int) pd_anil))) pa_nil))))
    (pd_seq (pd_setN (ps_set (i := 16) sc_law.nd rfl (Or.inl rfl) (pd_callN D_product hr (by decide) (pd_acons (pd_ix (pd_own (pv 13)) (PE.sh (pd_int pe_int))) (pd_acons (PE.nE (pd_lst (pd_acons (pd_tup (pd_acons (pd_int pe_int) (pd_acons (pd_int pe_int) pd_anil))) pd_anil))) pd_anil)))))
    (pd_seq (pd_if (PW.pt (pd_tor (pd_tcmp (op_neH hr) imp_ne (pd_own (pv 16)) (pd_own (pv 3)) (nomark _)) (pw_or1 (pd_tcmp (op_neH hr) imp_ne (PE.sh (PE.nE (pd_callN D_product hr (by decide) (pd_acons (pd_ix (pd_own (pv 13)) (PE.sh (pd_int pe_int))) (pd_acons (pd_ix (pd_own (pv 13)) (PE.sh (pd_int pe_int))) pd_anil))))) (pd_own (pv 15)) (nomark _))))) (pd_one (pd_ret (pd_bl pe_bl))) pd_nil)
    (pd_seq (pd_clear (ps_expr (pe_bm0 PySem.F.plainAttrs_list PySem.F.slot_list_clear PySem.F.type_list_clear mt_clear (pv 16))))
    (pd_one (pd_ret (pd_and (pd_cmp (op_eqH hr) imp_eq (pd_own (pv 13)) (PE.sh (PE.nE (pd_lst (pd_acons (pd_var (pv 3)) (pd_acons (pd_var (pv 4)) pd_anil))))) (nomark _)) (pd_and (pd_cmp (op_eqH hr) imp_eq (PE.sh (PE.nE (pd_callN D_product hr (by decide) (pd_acons (pd_var (pv 4)) (pd_acons (pd_var (pv 3)) pd_anil))))) (pd_own (pv 15)) (nomark _)) (pe_one (pd_chain (op_eqH hr) imp_eq (op_eqH hr) imp_eq (PE.sh (PE.nE (pd_callN D_product hr (by decide) (pd_acons (PE.nE (pd_lst pd_anil)) (pd_acons (pd_var (pv 3)) pd_anil))))) (PE.sh (PE.nE (pd_lst pd_anil))) (PE.sh (PE.nE (pd_callN D_product hr (by decide) (pd_acons (pd_var (pv 4)) (pd_acons (PE.nE (pd_lst pd_anil)) pd_anil))))))))))))))))))))))))))))
end
end MyLaw

namespace MyLaw
open PySem L2 Q1
theorem all_mk {l : PySem.W.OpenLaw} {w : World} {K : PySem.W.Frag} {h : Heap} {mg : Str → Option Value} {fa : Addr} (X : K.In h) (G : h.Ns mainGlobals mg) (hfa : mg "law" = some (.ref fa))
    {f1 : Addr} {od1 an1 : Option Addr} {sl1 : Array (Option Value)} {oc1 kV1 dc1 pm1 cd1 ct1 : Value}
    (a1 : PySem.W.nsIn K mainGlobals "frac" = some (some (.ref f1))) (l1 : K.lookup f1 = some ⟨oc1, od1, .func (PySem.W.fnOf "frac" "frac" (defArgs s_frac) (defBody s_frac) (defScope s_frac) .none kV1 dc1 pm1 an1 cd1 ct1), sl1⟩) (c1 : PySem.W.codeIn K cd1 "frac" = true) (k1 : PySem.W.keepIn K (.ref f1) = true)
    {f2 : Addr} {od2 an2 : Option Addr} {sl2 : Array (Option Value)} {oc2 kV2 dc2 pm2 cd2 ct2 : Value}
    (a2 : PySem.W.nsIn K mainGlobals "greatest_divisor" = some (some (.ref f2))) (l2 : K.lookup f2 = some ⟨oc2, od2, .func (PySem.W.fnOf "greatest_divisor" "greatest_divisor" (defArgs s_greatest_divisor) (defBody s_greatest_divisor) (defScope s_greatest_divisor) .none kV2 dc2 pm2 an2 cd2 ct2), sl2⟩) (c2 : PySem.W.codeIn K cd2 "greatest_divisor" = true) (k2 : PySem.W.keepIn K (.ref f2) = true)
    {f3 : Addr} {od3 an3 : Option Addr} {sl3 : Array (Option Value)} {oc3 kV3 dc3 pm3 cd3 ct3 : Value}
    (a3 : PySem.W.nsIn K mainGlobals "leap" = some (some (.ref f3))) (l3 : K.lookup f3 = some ⟨oc3, od3, .func (PySem.W.fnOf "leap" "leap" (defArgs s_leap) (defBody s_leap) (defScope s_leap) .none kV3 dc3 pm3 an3 cd3 ct3), sl3⟩) (c3 : PySem.W.codeIn K cd3 "leap" = true) (k3 : PySem.W.keepIn K (.ref f3) = true)
    {f4 : Addr} {od4 an4 : Option Addr} {sl4 : Array (Option Value)} {oc4 kV4 dc4 pm4 cd4 ct4 : Value}
    (a4 : PySem.W.nsIn K mainGlobals "product" = some (some (.ref f4))) (l4 : K.lookup f4 = some ⟨oc4, od4, .func (PySem.W.fnOf "product" "product" (defArgs s_product) (defBody s_product) (defScope s_product) .none kV4 dc4 pm4 an4 cd4 ct4), sl4⟩) (c4 : PySem.W.codeIn K cd4 "product" = true) (k4 : PySem.W.keepIn K (.ref f4) = true)
    {f5 : Addr} {od5 an5 : Option Addr} {sl5 : Array (Option Value)} {oc5 kV5 dc5 pm5 cd5 ct5 : Value}
    (a5 : PySem.W.nsIn K mainGlobals "trimmed" = some (some (.ref f5))) (l5 : K.lookup f5 = some ⟨oc5, od5, .func (PySem.W.fnOf "trimmed" "trimmed" (defArgs s_trimmed) (defBody s_trimmed) (defScope s_trimmed) .none kV5 dc5 pm5 an5 cd5 ct5), sl5⟩) (c5 : PySem.W.codeIn K cd5 "trimmed" = true) (k5 : PySem.W.keepIn K (.ref f5) = true)
    {f6 : Addr} {od6 an6 : Option Addr} {sl6 : Array (Option Value)} {oc6 kV6 dc6 pm6 cd6 ct6 : Value}
    (a6 : PySem.W.nsIn K mainGlobals "common_bottom" = some (some (.ref f6))) (l6 : K.lookup f6 = some ⟨oc6, od6, .func (PySem.W.fnOf "common_bottom" "common_bottom" (defArgs s_common_bottom) (defBody s_common_bottom) (defScope s_common_bottom) .none kV6 dc6 pm6 an6 cd6 ct6), sl6⟩) (c6 : PySem.W.codeIn K cd6 "common_bottom" = true) (k6 : PySem.W.keepIn K (.ref f6) = true)
    {f7 : Addr} {od7 an7 : Option Addr} {sl7 : Array (Option Value)} {oc7 kV7 dc7 pm7 cd7 ct7 : Value}
    (a7 : PySem.W.nsIn K mainGlobals "tops_over" = some (some (.ref f7))) (l7 : K.lookup f7 = some ⟨oc7, od7, .func (PySem.W.fnOf "tops_over" "tops_over" (defArgs s_tops_over) (defBody s_tops_over) (defScope s_tops_over) .none kV7 dc7 pm7 an7 cd7 ct7), sl7⟩) (c7 : PySem.W.codeIn K cd7 "tops_over" = true) (k7 : PySem.W.keepIn K (.ref f7) = true)
    {f8 : Addr} {od8 an8 : Option Addr} {sl8 : Array (Option Value)} {oc8 kV8 dc8 pm8 cd8 ct8 : Value}
    (a8 : PySem.W.nsIn K mainGlobals "product_of_tops" = some (some (.ref f8))) (l8 : K.lookup f8 = some ⟨oc8, od8, .func (PySem.W.fnOf "product_of_tops" "product_of_tops" (defArgs s_product_of_tops) (defBody s_product_of_tops) (defScope s_product_of_tops) .none kV8 dc8 pm8 an8 cd8 ct8), sl8⟩) (c8 : PySem.W.codeIn K cd8 "product_of_tops" = true) (k8 : PySem.W.keepIn K (.ref f8) = true)
    {f9 : Addr} {od9 an9 : Option Addr} {sl9 : Array (Option Value)} {oc9 kV9 dc9 pm9 cd9 ct9 : Value}
    (a9 : PySem.W.nsIn K mainGlobals "_law_cell" = some (some (.ref f9))) (l9 : K.lookup f9 = some ⟨oc9, od9, .func (PySem.W.fnOf "_law_cell" "_law_cell" (defArgs s_law_cell) (defBody s_law_cell) (defScope s_law_cell) .none kV9 dc9 pm9 an9 cd9 ct9), sl9⟩) (c9 : PySem.W.codeIn K cd9 "_law_cell" = true) (k9 : PySem.W.keepIn K (.ref f9) = true)
    {f10 : Addr} {od10 an10 : Option Addr} {sl10 : Array (Option Value)} {oc10 kV10 dc10 pm10 cd10 ct10 : Value}
    (a10 : PySem.W.nsIn K mainGlobals "_law_whole" = some (some (.ref f10))) (l10 : K.lookup f10 = some ⟨oc10, od10, .func (PySem.W.fnOf "_law_whole" "_law_whole" (defArgs s_law_whole) (defBody s_law_whole) (defScope s_law_whole) .none kV10 dc10 pm10 an10 cd10 ct10), sl10⟩) (c10 : PySem.W.codeIn K cd10 "_law_whole" = true) (k10 : PySem.W.keepIn K (.ref f10) = true)
    {f11 : Addr} {od11 an11 : Option Addr} {sl11 : Array (Option Value)} {oc11 kV11 dc11 pm11 cd11 ct11 : Value}
    (a11 : PySem.W.nsIn K mainGlobals "_law_divisor" = some (some (.ref f11))) (l11 : K.lookup f11 = some ⟨oc11, od11, .func (PySem.W.fnOf "_law_divisor" "_law_divisor" (defArgs s_law_divisor) (defBody s_law_divisor) (defScope s_law_divisor) .none kV11 dc11 pm11 an11 cd11 ct11), sl11⟩) (c11 : PySem.W.codeIn K cd11 "_law_divisor" = true) (k11 : PySem.W.keepIn K (.ref f11) = true)
    {f12 : Addr} {od12 an12 : Option Addr} {sl12 : Array (Option Value)} {oc12 kV12 dc12 pm12 cd12 ct12 : Value}
    (a12 : PySem.W.nsIn K mainGlobals "_law_is_frac" = some (some (.ref f12))) (l12 : K.lookup f12 = some ⟨oc12, od12, .func (PySem.W.fnOf "_law_is_frac" "_law_is_frac" (defArgs s_law_is_frac) (defBody s_law_is_frac) (defScope s_law_is_frac) .none kV12 dc12 pm12 an12 cd12 ct12), sl12⟩) (c12 : PySem.W.codeIn K cd12 "_law_is_frac" = true) (k12 : PySem.W.keepIn K (.ref f12) = true)
    {f13 : Addr} {od13 an13 : Option Addr} {sl13 : Array (Option Value)} {oc13 kV13 dc13 pm13 cd13 ct13 : Value}
    (a13 : PySem.W.nsIn K mainGlobals "_law_made" = some (some (.ref f13))) (l13 : K.lookup f13 = some ⟨oc13, od13, .func (PySem.W.fnOf "_law_made" "_law_made" (defArgs s_law_made) (defBody s_law_made) (defScope s_law_made) .none kV13 dc13 pm13 an13 cd13 ct13), sl13⟩) (c13 : PySem.W.codeIn K cd13 "_law_made" = true) (k13 : PySem.W.keepIn K (.ref f13) = true)
    {f14 : Addr} {od14 an14 : Option Addr} {sl14 : Array (Option Value)} {oc14 kV14 dc14 pm14 cd14 ct14 : Value}
    (a14 : PySem.W.nsIn K mainGlobals "_law_frac" = some (some (.ref f14))) (l14 : K.lookup f14 = some ⟨oc14, od14, .func (PySem.W.fnOf "_law_frac" "_law_frac" (defArgs s_law_frac) (defBody s_law_frac) (defScope s_law_frac) .none kV14 dc14 pm14 an14 cd14 ct14), sl14⟩) (c14 : PySem.W.codeIn K cd14 "_law_frac" = true) (k14 : PySem.W.keepIn K (.ref f14) = true)
    {f15 : Addr} {od15 an15 : Option Addr} {sl15 : Array (Option Value)} {oc15 kV15 dc15 pm15 cd15 ct15 : Value}
    (a15 : PySem.W.nsIn K mainGlobals "_law_poly" = some (some (.ref f15))) (l15 : K.lookup f15 = some ⟨oc15, od15, .func (PySem.W.fnOf "_law_poly" "_law_poly" (defArgs s_law_poly) (defBody s_law_poly) (defScope s_law_poly) .none kV15 dc15 pm15 an15 cd15 ct15), sl15⟩) (c15 : PySem.W.codeIn K cd15 "_law_poly" = true) (k15 : PySem.W.keepIn K (.ref f15) = true)
    {f16 : Addr} {od16 an16 : Option Addr} {sl16 : Array (Option Value)} {oc16 kV16 dc16 pm16 cd16 ct16 : Value}
    (a16 : PySem.W.nsIn K mainGlobals "_law_is_row" = some (some (.ref f16))) (l16 : K.lookup f16 = some ⟨oc16, od16, .func (PySem.W.fnOf "_law_is_row" "_law_is_row" (defArgs s_law_is_row) (defBody s_law_is_row) (defScope s_law_is_row) .none kV16 dc16 pm16 an16 cd16 ct16), sl16⟩) (c16 : PySem.W.codeIn K cd16 "_law_is_row" = true) (k16 : PySem.W.keepIn K (.ref f16) = true)
    {f17 : Addr} {od17 an17 : Option Addr} {sl17 : Array (Option Value)} {oc17 kV17 dc17 pm17 cd17 ct17 : Value}
    (a17 : PySem.W.nsIn K mainGlobals "_law_common" = some (some (.ref f17))) (l17 : K.lookup f17 = some ⟨oc17, od17, .func (PySem.W.fnOf "_law_common" "_law_common" (defArgs s_law_common) (defBody s_law_common) (defScope s_law_common) .none kV17 dc17 pm17 an17 cd17 ct17), sl17⟩) (c17 : PySem.W.codeIn K cd17 "_law_common" = true) (k17 : PySem.W.keepIn K (.ref f17) = true)
    {f18 : Addr} {od18 an18 : Option Addr} {sl18 : Array (Option Value)} {oc18 kV18 dc18 pm18 cd18 ct18 : Value}
    (a18 : PySem.W.nsIn K mainGlobals "law" = some (some (.ref f18))) (l18 : K.lookup f18 = some ⟨oc18, od18, .func (PySem.W.fnOf "law" "law" (defArgs s_law) (defBody s_law) (defScope s_law) .none kV18 dc18 pm18 an18 cd18 ct18), sl18⟩) (c18 : PySem.W.codeIn K cd18 "law" = true) (k18 : PySem.W.keepIn K (.ref f18) = true)
    {tLONG : Tok} (aLONG : PySem.W.nsIn K mainGlobals "LONG" = some (some (.int 4000 tLONG)))
    {tWINDOW : Tok} (aWINDOW : PySem.W.nsIn K mainGlobals "WINDOW" = some (some (.int 240 tWINDOW)))
    {tSHED : Tok} (aSHED : PySem.W.nsIn K mainGlobals "SHED" = some (some (.int 120 tSHED)))
    {pNOUGHT : Addr} {odNOUGHT : Option Addr} {slNOUGHT : Array (Option Value)} {nNOUGHT : Nat} {tNOUGHT0 tNOUGHT1 : Tok} (aNOUGHT : PySem.W.nsIn K mainGlobals "NOUGHT" = some (some (.ref pNOUGHT))) (lNOUGHT : K.lookup pNOUGHT = some ⟨.type "tuple", odNOUGHT, .seq #[.int (0) tNOUGHT0, .int (1) tNOUGHT1] nNOUGHT, slNOUGHT⟩)
    (z_len : PySem.W.nsIn K mainGlobals "len" = some none)
    (z_range : PySem.W.nsIn K mainGlobals "range" = some none)
    (z_isinstance : PySem.W.nsIn K mainGlobals "isinstance" = some none)
    (z_max : PySem.W.nsIn K mainGlobals "max" = some none)
    (z_min : PySem.W.nsIn K mainGlobals "min" = some none)
    (z_int : PySem.W.nsIn K mainGlobals "int" = some none)
    (z_bool : PySem.W.nsIn K mainGlobals "bool" = some none)
    (z_tuple : PySem.W.nsIn K mainGlobals "tuple" = some none)
    (z_list : PySem.W.nsIn K mainGlobals "list" = some none)
    (z_abs : PySem.W.nsIn K mainGlobals "abs" = some none)
    (z_str : PySem.W.nsIn K mainGlobals "str" = some none)
    (z_sum : PySem.W.nsIn K mainGlobals "sum" = some none)
    (z_sorted : PySem.W.nsIn K mainGlobals "sorted" = some none)
    (z_reversed : PySem.W.nsIn K mainGlobals "reversed" = some none)
    (z_enumerate : PySem.W.nsIn K mainGlobals "enumerate" = some none)
    : ∃ fd : FuncData, (∀ (s : Shared) (v : Value), BindsTo s fd ⟨[v], []⟩ [("_law_script", v)]) ∧ ∀ base : Heap, K.In base → base.Ns mainGlobals mg → FnOk l.prog w K mg base CX0 5 fa fd ["_law_script"] (spD K 1 G_law) := by
  have e := hfa.symm.trans (PySem.W.mg_of X G a18)
  cases e
  have d_frac : Df K mg "frac" s_frac ["top", "bottom"] := ⟨_, _, fun_mk (st := s_frac) l1 c1 k1, PySem.W.mg_of X G a1, (fun_mk (st := s_frac) l1 c1 k1).binds fun _ _ _ _ _ _ us hl => match us, hl with | [_, _], _ => rfl⟩
  have d_greatest_divisor : Df K mg "greatest_divisor" s_greatest_divisor ["one", "other"] := ⟨_, _, fun_mk (st := s_greatest_divisor) l2 c2 k2, PySem.W.mg_of X G a2, (fun_mk (st := s_greatest_divisor) l2 c2 k2).binds fun _ _ _ _ _ _ us hl => match us, hl with | [_, _], _ => rfl⟩
  have d_leap : Df K mg "leap" s_leap ["one", "other"] := ⟨_, _, fun_mk (st := s_leap) l3 c3 k3, PySem.W.mg_of X G a3, (fun_mk (st := s_leap) l3 c3 k3).binds fun _ _ _ _ _ _ us hl => match us, hl with | [_, _], _ => rfl⟩
  have d_product : Df K mg "product" s_product ["one", "other"] := ⟨_, _, fun_mk (st := s_product) l4 c4 k4, PySem.W.mg_of X G a4, (fun_mk (st := s_product) l4 c4 k4).binds fun _ _ _ _ _ _ us hl => match us, hl with | [_, _], _ => rfl⟩
  have d_trimmed : Df K mg "trimmed" s_trimmed ["fractions"] := ⟨_, _, fun_mk (st := s_trimmed) l5 c5 k5, PySem.W.mg_of X G a5, (fun_mk (st := s_trimmed) l5 c5 k5).binds fun _ _ _ _ _ _ us hl => match us, hl with | [_], _ => rfl⟩
  have d_common_bottom : Df K mg "common_bottom" s_common_bottom ["fractions"] := ⟨_, _, fun_mk (st := s_common_bottom) l6 c6 k6, PySem.W.mg_of X G a6, (fun_mk (st := s_common_bottom) l6 c6 k6).binds fun _ _ _ _ _ _ us hl => match us, hl with | [_], _ => rfl⟩
  have d_tops_over : Df K mg "tops_over" s_tops_over ["fractions", "bottom"] := ⟨_, _, fun_mk (st := s_tops_over) l7 c7 k7, PySem.W.mg_of X G a7, (fun_mk (st := s_tops_over) l7 c7 k7).binds fun _ _ _ _ _ _ us hl => match us, hl with | [_, _], _ => rfl⟩
  have d_product_of_tops : Df K mg "product_of_tops" s_product_of_tops ["ones", "others"] := ⟨_, _, fun_mk (st := s_product_of_tops) l8 c8 k8, PySem.W.mg_of X G a8, (fun_mk (st := s_product_of_tops) l8 c8 k8).binds fun _ _ _ _ _ _ us hl => match us, hl with | [_, _], _ => rfl⟩
  have d_law_cell : Df K mg "_law_cell" s_law_cell ["_law_script", "_law_k"] := ⟨_, _, fun_mk (st := s_law_cell) l9 c9 k9, PySem.W.mg_of X G a9, (fun_mk (st := s_law_cell) l9 c9 k9).binds fun _ _ _ _ _ _ us hl => match us, hl with | [_, _], _ => rfl⟩
  have d_law_whole : Df K mg "_law_whole" s_law_whole ["_law_found"] := ⟨_, _, fun_mk (st := s_law_whole) l10 c10 k10, PySem.W.mg_of X G a10, (fun_mk (st := s_law_whole) l10 c10 k10).binds fun _ _ _ _ _ _ us hl => match us, hl with | [_], _ => rfl⟩
  have d_law_divisor : Df K mg "_law_divisor" s_law_divisor ["_law_one", "_law_other"] := ⟨_, _, fun_mk (st := s_law_divisor) l11 c11 k11, PySem.W.mg_of X G a11, (fun_mk (st := s_law_divisor) l11 c11 k11).binds fun _ _ _ _ _ _ us hl => match us, hl with | [_, _], _ => rfl⟩
  have d_law_is_frac : Df K mg "_law_is_frac" s_law_is_frac ["_law_found", "_law_top", "_law_bottom"] := ⟨_, _, fun_mk (st := s_law_is_frac) l12 c12 k12, PySem.W.mg_of X G a12, (fun_mk (st := s_law_is_frac) l12 c12 k12).binds fun _ _ _ _ _ _ us hl => match us, hl with | [_, _, _], _ => rfl⟩
  have d_law_made : Df K mg "_law_made" s_law_made ["_law_top", "_law_bottom"] := ⟨_, _, fun_mk (st := s_law_made) l13 c13 k13, PySem.W.mg_of X G a13, (fun_mk (st := s_law_made) l13 c13 k13).binds fun _ _ _ _ _ _ us hl => match us, hl with | [_, _], _ => rfl⟩
  have d_law_frac : Df K mg "_law_frac" s_law_frac ["_law_cell_here"] := ⟨_, _, fun_mk (st := s_law_frac) l14 c14 k14, PySem.W.mg_of X G a14, (fun_mk (st := s_law_frac) l14 c14 k14).binds fun _ _ _ _ _ _ us hl => match us, hl with | [_], _ => rfl⟩
  have d_law_poly : Df K mg "_law_poly" s_law_poly ["_law_cells"] := ⟨_, _, fun_mk (st := s_law_poly) l15 c15 k15, PySem.W.mg_of X G a15, (fun_mk (st := s_law_poly) l15 c15 k15).binds fun _ _ _ _ _ _ us hl => match us, hl with | [_], _ => rfl⟩
  have d_law_is_row : Df K mg "_law_is_row" s_law_is_row ["_law_found", "_law_pairs"] := ⟨_, _, fun_mk (st := s_law_is_row) l16 c16 k16, PySem.W.mg_of X G a16, (fun_mk (st := s_law_is_row) l16 c16 k16).binds fun _ _ _ _ _ _ us hl => match us, hl with | [_, _], _ => rfl⟩
  have d_law_common : Df K mg "_law_common" s_law_common ["_law_row"] := ⟨_, _, fun_mk (st := s_law_common) l17 c17 k17, PySem.W.mg_of X G a17, (fun_mk (st := s_law_common) l17 c17 k17).binds fun _ _ _ _ _ _ us hl => match us, hl with | [_], _ => rfl⟩
  have d_law : Df K mg "law" s_law ["_law_script"] := ⟨_, _, fun_mk (st := s_law) l18 c18 k18, PySem.W.mg_of X G a18, (fun_mk (st := s_law) l18 c18 k18).binds fun _ _ _ _ _ _ us hl => match us, hl with | [_], _ => rfl⟩
  have C_LONG : Cn mg "LONG" (.int 4000) := ⟨_, PySem.W.mg_of X G aLONG, ⟨_, rfl⟩⟩
  have C_WINDOW : Cn mg "WINDOW" (.int 240) := ⟨_, PySem.W.mg_of X G aWINDOW, ⟨_, rfl⟩⟩
  have C_SHED : Cn mg "SHED" (.int 120) := ⟨_, PySem.W.mg_of X G aSHED, ⟨_, rfl⟩⟩
  have C_NOUGHT : Cn mg "NOUGHT" (.ref pNOUGHT) := ⟨_, PySem.W.mg_of X G aNOUGHT, rfl⟩
  have S_NOUGHT : ∀ H : Hp, HD K H (.ref pNOUGHT) (.tuple [(.int (0)), (.int (1))]) := fun H => .tup (xs := [.int (0), .int (1)]) (.inr ⟨_, _, _, lNOUGHT, rfl, rfl, (by show 2 ≤ sizeLine; decide), (.cons ⟨_, rfl⟩ (.cons ⟨_, rfl⟩ .nil))⟩) (.cons (.int _) (.cons (.int _) .nil))
  have B : Bs mg := ⟨PySem.W.mg_none_of X G z_len, PySem.W.mg_none_of X G z_range, PySem.W.mg_none_of X G z_isinstance, PySem.W.mg_none_of X G z_max, PySem.W.mg_none_of X G z_min, PySem.W.mg_none_of X G z_int, PySem.W.mg_none_of X G z_bool, PySem.W.mg_none_of X G z_tuple, PySem.W.mg_none_of X G z_list, PySem.W.mg_none_of X G z_abs, PySem.W.mg_none_of X G z_str, PySem.W.mg_none_of X G z_sum, PySem.W.mg_none_of X G z_sorted, PySem.W.mg_none_of X G z_reversed, PySem.W.mg_none_of X G z_enumerate⟩
  refine ⟨PySem.W.fnOf "law" "law" (defArgs s_law) (defBody s_law) (defScope s_law) .none kV18 dc18 pm18 an18 cd18 ct18, fun s v => .of_eq rfl, fun base _ _ => ?_⟩
  have D_greatest_divisor := ok_greatest_divisor (P := l.prog) (w := w) (base := base) d_greatest_divisor B C_LONG
  have D_frac := ok_frac (P := l.prog) (w := w) (base := base) d_frac B D_greatest_divisor
  have D_common_bottom := ok_common_bottom (P := l.prog) (w := w) (base := base) d_common_bottom B D_greatest_divisor
  have D_product_of_tops := ok_product_of_tops (P := l.prog) (w := w) (base := base) d_product_of_tops B
  have D_tops_over := ok_tops_over (P := l.prog) (w := w) (base := base) d_tops_over B
  have D_trimmed := ok_trimmed (P := l.prog) (w := w) (base := base) d_trimmed B C_NOUGHT S_NOUGHT
  have D_product := ok_product (P := l.prog) (w := w) (base := base) d_product B D_common_bottom D_frac D_product_of_tops D_tops_over D_trimmed
  have D_law_cell := ok_law_cell (P := l.prog) (w := w) (base := base) d_law_cell B
  have D_law_whole := ok_law_whole (P := l.prog) (w := w) (base := base) d_law_whole B
  have D_law_divisor := ok_law_divisor (P := l.prog) (w := w) (base := base) d_law_divisor B
  have D_law_is_frac := ok_law_is_frac (P := l.prog) (w := w) (base := base) d_law_is_frac B D_law_divisor D_law_whole
  have D_law_made := ok_law_made (P := l.prog) (w := w) (base := base) d_law_made B D_law_divisor
  have D_law_frac := ok_law_frac (P := l.prog) (w := w) (base := base) d_law_frac B D_law_made
  have D_law_poly := ok_law_poly (P := l.prog) (w := w) (base := base) d_law_poly B D_law_frac
  have D_law_is_row := ok_law_is_row (P := l.prog) (w := w) (base := base) d_law_is_row B D_law_is_frac
  have D_law_common := ok_law_common (P := l.prog) (w := w) (base := base) d_law_common B D_law_divisor
  exact ok_law (P := l.prog) (w := w) (base := base) (fun_mk (st := s_law) l18 c18 k18) B D_law_cell D_law_common D_law_is_row D_law_poly D_product
theorem walk {l : PySem.W.OpenLaw} {q : Program} {loose : List Str} {XP : (Str → Option Value) → Heap → Prop} {YP : World → Heap → Prop} {d : DefRec} {K : Params → PySem.W.Frag} (hn : l.most = some 63) (hdf : d.params.defaults = [])
    (hY : ∀ (w : World) (h : Heap), YP w h → (K w.params).In h)
    (F : ∀ (w : World) (mg : Str → Option Value) (fa : Addr) (h : Heap), (K w.params).In h → h.Ns mainGlobals mg → mg d.name = some (.ref fa) →
      ∃ fd : FuncData, (∀ (s : Shared) (u : Value), BindsTo s fd ⟨[u], []⟩ [("_law_script", u)]) ∧ ∀ base : Heap, (K w.params).In base → base.Ns mainGlobals mg → FnOk l.prog w (K w.params) mg base CX0 5 fa fd ["_law_script"] (spD (K w.params) 1 G_law)) :
    PySem.W.WalkO q loose XP YP l.row.toRowW d [] (fun f vs => PySem.call f vs) :=
  L2.walk_of (n := 63) (k := 5) (x := "_law_script") (CX := fun _ => CX0) (sp := fun w => spD (K w.params) 1 G_law) hn (by decide) hdf ⟨rfl, by decide, by decide⟩ hY F (fun _ _ a ns hl _ hS => ⟨rfl, [], [.list (ns.map PyData.int)], .bool true, fun _ z => by simp at z, by rw [wo_nil]; exact .cons (.lst hS (HDs.ints ns)) .nil, law_true ns hl, fun v H' _ h => by cases h; rfl⟩) fun _ _ _ _ _ z => z
end MyLaw
open PySem PySem.W PyProof.Rows
set_option maxRecDepth 100000 in
set_option maxHeartbeats 0 in
theorem PySem.Challenge.cw_lotdraw_k04_products_holds : PySem.Challenge.rw_lotdraw_k04_products.Holds := by
  w_on; o_law; k_head; (case hw => w_witness2)
  k_fill
  refine MyLaw.walk (l := PySem.Challenge.rw_lotdraw_k04_products) rfl rfl (fun w h Y => PySem.W.kIn_of Y) ?F
  case F =>
    intro w mg fa h KX G hmg
    refine' MyLaw.all_mk KX G hmg ?a1 ?l1 ?c1 ?k1 ?a2 ?l2 ?c2 ?k2 ?a3 ?l3 ?c3 ?k3 ?a4 ?l4 ?c4 ?k4 ?a5 ?l5 ?c5 ?k5 ?a6 ?l6 ?c6 ?k6 ?a7 ?l7 ?c7 ?k7 ?a8 ?l8 ?c8 ?k8 ?a9 ?l9 ?c9 ?k9 ?a10 ?l10 ?c10 ?k10 ?a11 ?l11 ?c11 ?k11 ?a12 ?l12 ?c12 ?k12 ?a13 ?l13 ?c13 ?k13 ?a14 ?l14 ?c14 ?k14 ?a15 ?l15 ?c15 ?k15 ?a16 ?l16 ?c16 ?k16 ?a17 ?l17 ?c17 ?k17 ?a18 ?l18 ?c18 ?k18 ?aLONG ?aWINDOW ?aSHED ?aNOUGHT ?lNOUGHT ?z_len ?z_range ?z_isinstance ?z_max ?z_min ?z_int ?z_bool ?z_tuple ?z_list ?z_abs ?z_str ?z_sum ?z_sorted ?z_reversed ?z_enumerate
    (case a1 => k_is)
    (case l1 => k_is)
    (case c1 => k_is)
    (case k1 => k_is)
    (case a2 => k_is)
    (case l2 => k_is)
    (case c2 => k_is)
    (case k2 => k_is)
    (case a3 => k_is)
    (case l3 => k_is)
    (case c3 => k_is)
    (case k3 => k_is)
    (case a4 => k_is)
    (case l4 => k_is)
    (case c4 => k_is)
    (case k4 => k_is)
    (case a5 => k_is)
    (case l5 => k_is)
    (case c5 => k_is)
    (case k5 => k_is)
    (case a6 => k_is)
    (case l6 => k_is)
    (case c6 => k_is)
    (case k6 => k_is)
    (case a7 => k_is)
    (case l7 => k_is)
    (case c7 => k_is)
    (case k7 => k_is)
    (case a8 => k_is)
    (case l8 => k_is)
    (case c8 => k_is)
    (case k8 => k_is)
    (case a9 => k_is)
    (case l9 => k_is)
    (case c9 => k_is)
    (case k9 => k_is)
    (case a10 => k_is)
    (case l10 => k_is)
    (case c10 => k_is)
    (case k10 => k_is)
    (case a11 => k_is)
    (case l11 => k_is)
    (case c11 => k_is)
    (case k11 => k_is)
    (case a12 => k_is)
    (case l12 => k_is)
    (case c12 => k_is)
    (case k12 => k_is)
    (case a13 => k_is)
    (case l13 => k_is)
    (case c13 => k_is)
    (case k13 => k_is)
    (case a14 => k_is)
    (case l14 => k_is)
    (case c14 => k_is)
    (case k14 => k_is)
    (case a15 => k_is)
    (case l15 => k_is)
    (case c15 => k_is)
    (case k15 => k_is)
    (case a16 => k_is)
    (case l16 => k_is)
    (case c16 => k_is)
    (case k16 => k_is)
    (case a17 => k_is)
    (case l17 => k_is)
    (case c17 => k_is)
    (case k17 => k_is)
    (case a18 => k_is)
    (case l18 => k_is)
    (case c18 => k_is)
    (case k18 => k_is)
    (case aLONG => k_is)
    (case aWINDOW => k_is)
    (case aSHED => k_is)
    (case aNOUGHT => k_is)
    (case lNOUGHT => k_is)
    (case z_len => k_is)
    (case z_range => k_is)
    (case z_isinstance => k_is)
    (case z_max => k_is)
    (case z_min => k_is)
    (case z_int => k_is)
    (case z_bool => k_is)
    (case z_tuple => k_is)
    (case z_list => k_is)
    (case z_abs => k_is)
    (case z_str => k_is)
    (case z_sum => k_is)
    (case z_sorted => k_is)
    (case z_reversed => k_is)
    (case z_enumerate => k_is)
