import PyProof.Rows.All
import Wide.All
import OpenK.AllK
import Wide.FinOn
import Lean
import PyProof.EqAt
import PyProof.EqKinds
import PyProof.TupleCall
import PySem.Challenge.RW_lotdraw_k46_ratios
set_option Elab.async false
set_option linter.all false
set_option maxRecDepth 100000
namespace L2
open PySem PySem.Spec PyProof.Rows
abbrev Key := Sum Int Str
def keyIs : Key → Value → Bool
  | .inl k, v => Value.isInt k v
  | .inr x, v => Value.isStrOf x v
def keyH (w : World) : Key → Int
  | .inl k => hashInt k
  | .inr x => hashStr w x
theorem keyIs_shape : ∀ {k : Key} {v : Value}, keyIs k v = true → (∃ i t, k = Sum.inl i ∧ v = Value.int i t) ∨ (∃ x t, k = Sum.inr x ∧ v = Value.str x t)
  | .inl i, v, h => by
    obtain ⟨t, e⟩ := Value.isInt_shape (k := i) (v := v) h
    exact .inl ⟨i, t, rfl, e⟩
  | .inr x, v, h => by
    obtain ⟨t, e⟩ := Value.isStrOf_shape (x := x) (v := v) h
    exact .inr ⟨x, t, rfl, e⟩
theorem key_ll (a b : Int) : decide ((Sum.inl a : Key) = Sum.inl b) = (a == b) := by
  by_cases e : a = b
  · subst e; simp
  · have h : ¬ (Sum.inl a : Key) = Sum.inl b := fun q => e (Sum.inl.inj q)
    rw [decide_eq_false h]
    exact (beq_eq_false_iff_ne.mpr e).symm
theorem key_rr (a b : Str) : decide ((Sum.inr a : Key) = Sum.inr b) = decide (a = b) := by
  by_cases e : a = b
  · subst e; simp
  · have h : ¬ (Sum.inr a : Key) = Sum.inr b := fun q => e (Sum.inr.inj q)
    rw [decide_eq_false h, decide_eq_false e]
theorem key_lr (a : Int) (b : Str) : decide ((Sum.inl a : Key) = Sum.inr b) = false := decide_eq_false (fun q => nomatch q)
theorem key_rl (a : Str) (b : Int) : decide ((Sum.inr a : Key) = Sum.inl b) = false := decide_eq_false (fun q => nomatch q)
def mixKind (prog : Program) (w : World) : PySem.KeyKind prog w Key where
  is := keyIs
  hash := keyH w
  inj := fun v a b ha hb => by
    rcases keyIs_shape ha with ⟨i, t, rfl, rfl⟩ | ⟨x, t, rfl, rfl⟩
    · rcases keyIs_shape hb with ⟨j, u, rfl, e⟩ | ⟨y, u, rfl, e⟩
      · injection e with e1 _; rw [e1]
      · exact nomatch e
    · rcases keyIs_shape hb with ⟨j, u, rfl, e⟩ | ⟨y, u, rfl, e⟩
      · exact nomatch e
      · injection e with e1 _; rw [e1]
  byValue := fun k v h => by
    rcases keyIs_shape h with ⟨i, t, rfl, rfl⟩ | ⟨x, t, rfl, rfl⟩ <;> rfl
  pyHash := fun hv h => by
    rcases keyIs_shape hv with ⟨i, t, rfl, rfl⟩ | ⟨x, t, rfl, rfl⟩
    · exact wpAny_pyHash_int h
    · exact wpAny_pyHash_str h
  eqBool := fun hu hv h => by
    rcases keyIs_shape hu with ⟨i, t, rfl, rfl⟩ | ⟨x, t, rfl, rfl⟩
    · rcases keyIs_shape hv with ⟨j, u, rfl, rfl⟩ | ⟨y, u, rfl, rfl⟩
      · rw [key_ll] at h; exact wpAny_eqBool_int h
      · rw [key_lr] at h; exact SeqAt.EqAt.int_str i t y u _ _ _ _ h
    · rcases keyIs_shape hv with ⟨j, u, rfl, rfl⟩ | ⟨y, u, rfl, rfl⟩
      · rw [key_rl] at h; exact SeqAt.EqAt.str_int x t j u _ _ _ _ h
      · rw [key_rr] at h; exact wpAny_eqBool_str h
  «strs» := fun k x t v h => by
    rcases keyIs_shape h with ⟨i, u, rfl, e⟩ | ⟨y, u, rfl, e⟩
    · exact nomatch e
    · injection e with e1 _
      subst e1
      cases v <;> rfl
end L2
namespace L2
open PySem PySem.Spec PyProof.Rows
inductive V where
  | non | bl (b : Bool) | int (i : Int) | str (x : Str) | byt (b : Array UInt8) | flt (b : UInt64) | ref (a : Addr) | ty (n : String)
  deriving DecidableEq
def RelV : V → Value → Prop
  | .non, u => u = Value.none
  | .bl b, u => u = Value.bool b
  | .int i, u => ∃ t, u = Value.int i t
  | .str x, u => ∃ t, u = Value.str x t
  | .byt b, u => ∃ t, u = Value.bytes b t
  | .flt b, u => ∃ t, u = Value.float b t
  | .ref a, u => u = Value.ref a
  | .ty n, u => u = Value.type n
abbrev Vals : List V → List Value → Prop := Paired RelV
theorem Vals.length {xs : List V} {us : List Value} (r : Vals xs us) : xs.length = us.length := Paired.length r
theorem Vals.get : ∀ {xs : List V} {us : List Value} {i : Nat} {x : V}, Vals xs us → xs[i]? = some x → ∃ u, us[i]? = some u ∧ RelV x u
  | _, _, _, _, .nil, e => by simp at e
  | _, _, 0, _, .cons r _, e => by simp at e; subst e; exact ⟨_, rfl, r⟩
  | _, _, i + 1, x, .cons _ t, e => by
    obtain ⟨u, h1, h2⟩ := Vals.get (i := i) (x := x) t (by simpa using e)
    exact ⟨u, by simpa using h1, h2⟩
theorem Vals.set {x : V} {u : Value} (r : RelV x u) : ∀ {xs : List V} {us : List Value} (i : Nat), Vals xs us → Vals (xs.set i x) (us.set i u)
  | _, _, _, .nil => .nil
  | _, _, 0, .cons _ t => .cons r t
  | _, _, i + 1, .cons q t => .cons q (Vals.set r i t)
theorem Vals.append : ∀ {xs ys : List V} {us ws : List Value}, Vals xs us → Vals ys ws → Vals (xs ++ ys) (us ++ ws)
  | _, _, _, _, .nil, s => s
  | _, _, _, _, .cons r t, s => .cons r (Vals.append t s)
theorem Vals.take : ∀ {xs : List V} {us : List Value} (n : Nat), Vals xs us → Vals (xs.take n) (us.take n)
  | _, _, 0, _ => .nil
  | _, _, _ + 1, .nil => .nil
  | _, _, n + 1, .cons r t => .cons r (Vals.take n t)
theorem Vals.drop : ∀ {xs : List V} {us : List Value} (n : Nat), Vals xs us → Vals (xs.drop n) (us.drop n)
  | _, _, 0, r => r
  | _, _, _ + 1, .nil => .nil
  | _, _, n + 1, .cons _ t => Vals.drop n t
theorem Vals.none_of : ∀ {xs : List V} {us : List Value} {i : Nat}, Vals xs us → xs[i]? = none → us[i]? = none := fun {xs us i} r e => by
  have h1 := r.length
  have h2 : xs.length ≤ i := List.getElem?_eq_none_iff.mp e
  exact List.getElem?_eq_none_iff.mpr (by omega)
def RelO : Option V → Option Value → Prop
  | some v, some u => RelV v u
  | none, none => True
  | _, _ => False
def KV {κ : Type} : List (κ × V) → List (κ × Value) → Prop := Paired fun (p : κ × V) (q : κ × Value) => p.1 = q.1 ∧ RelV p.2 q.2
def kV : Key → V
  | .inl i => .int i
  | .inr x => .str x
inductive HO where
    | lst (xs : List V)
    | tup (xs : List V)
    | dK (kvs : List (Key × V)) | dT (kvs : List (List Key × V))
    | set (S : Int → Bool) (n : Nat)
    | ins (C dx : Addr) (fs : List (Str × V))
    | own (x : Addr)
    | xd (fs : List (Str × V))
    | met (f x : Addr)
    | rng (lo hi : Int)
    | frz (o : Obj) (u : HO)
    | tbl (ps : Array Value)
    | ext (φ : Heap → Prop)
abbrev Hp := Addr → Option HO
def upd (H : Hp) (a : Addr) (o : HO) : Hp := fun b => if b = a then some o else H b
theorem upd_same {H : Hp} {a : Addr} {o : HO} : upd H a o a = some o := by unfold upd; rw [if_pos rfl]
theorem upd_ne {H : Hp} {a b : Addr} {o : HO} (h : b ≠ a) : upd H a o b = H b := by unfold upd; rw [if_neg h]
theorem ne_of_none {H : Hp} {a b : Addr} {o : HO} (h : H a = some o) (h' : H b = none) : a ≠ b := by
  intro e; subst e; rw [h] at h'; cases h'
def TupT (H : Hp) (b : Addr) (xs : List V) : Prop := H b = some (.tup xs) ∨ ∃ ob, H b = some (.frz ob (.tup xs))
theorem TupT.ne {H : Hp} {a b : Addr} {o : HO} {xs : List V} (t : TupT H b xs) (n : b ≠ a) : TupT (upd H a o) b xs := by
  rcases t with t | ⟨ob, t⟩
  · exact .inl (by rw [upd_ne n]; exact t)
  · exact .inr ⟨ob, by rw [upd_ne n]; exact t⟩
theorem TupT.new {H : Hp} {a b : Addr} {o : HO} {xs : List V} (t : TupT H b xs) (n : H a = none) : TupT (upd H a o) b xs := t.ne fun z => by
  subst z
  rcases t with t | ⟨ob, t⟩ <;> rw [n] at t <;> cases t
theorem TupT.dT {H : Hp} {a b : Addr} {o : HO} {xs : List V} {kvs : List (List Key × V)} (t : TupT H b xs) (e : H a = some (.dT kvs)) : TupT (upd H a o) b xs := t.ne fun z => by
  subst z
  rcases t with t | ⟨ob, t⟩ <;> rw [e] at t <;> cases t
section
variable (P : Program) (w : World)
def ObjOk (H : Hp) (h : Heap) (a : Addr) : HO → Prop
  | .lst xs => xs.length ≤ sizeLine ∧ ∃ (its : List Value) (n : Nat), Vals xs its ∧ h.get? a = some { cls := .type "list", data := .seq its.toArray n }
  | .tup xs => xs.length ≤ sizeLine ∧ ∃ its : List Value, Vals xs its ∧ IsTup h a its.toArray
  | .dK kvs => kvs.length ≤ sizeLine ∧ (a == sysModules) = false ∧ ∃ vs, KV kvs vs ∧ h.DictOf (mixKind P w) a vs
  | .dT kvs => kvs.length ≤ sizeLine ∧ (a == sysModules) = false ∧ ∃ xs : List (List Key × Addr × Value),
      Paired (fun (p : List Key × V) (q : List Key × Addr × Value) => p.1 = q.1 ∧ TupT H q.2.1 (p.1.map kV) ∧ RelV p.2 q.2.2) kvs xs ∧
      ∃ o es ep, h.get? a = some o ∧ o.ExactDict ∧ o.data = .dict es ep ∧ es.toList = xs.map (entryOfKey (tupleKind (mixKind P w))) ∧ (xs.map (·.1)).Nodup
  | .set S n => h.SetOf (intKind P w) a S n
  | .ins C dx fs => H dx = some (.own a) ∧ fs.length ≤ 1000 ∧ dx ≠ a ∧ h.get? a = some (PySem.W.instObj C dx) ∧
      ∃ mA, h.Ns1 dx mA ∧ (∀ f, RelO (fs.lookup f) (mA f)) ∧ PySem.Within mA (fs.map (·.1))
  | .own _ => ∃ o, h.get? a = some o
  | .xd fs => ∃ mA, h.Ns1 a mA ∧ ∀ f, RelO (fs.lookup f) (mA f)
  | .rng lo hi => ∃ t u v, h.get? a = some { cls := .type "range", data := .fields #[.int lo t, .int hi u, .int 1 v] }
  | .frz o u => h.get? a = some o ∧ ObjOk H h a u
  | .tbl ps => h.get? a = some { cls := .none, data := .fields ps }
  | .met f x => h.get? a = some (PySem.W.methodObj (.ref f) (.ref x))
  | .ext φ => φ h ∧ (∃ o, h.get? a = some o) ∧ ∀ h1 h2 : Heap, φ h1 → (∀ o, h1.get? a = some o → h2.get? a = some o) → φ h2
def HOk (H : Hp) (h : Heap) : Prop := ∀ a o, H a = some o → ObjOk P w H h a o
end
section
variable {P : Program} {w : World} {H H' : Hp} {h h' : Heap} {a : Addr} {o : HO}
theorem ObjOk.lt (x : ObjOk P w H h a o) : a < h.objs.size := by
  cases o with
  | lst xs => obtain ⟨_, _, _, _, e⟩ := x; exact Heap.lt_size e
  | tup xs => obtain ⟨_, _, _, p⟩ := x; exact p.lt
  | dK kvs => obtain ⟨_, _, _, _, o, _, _, e, _⟩ := x; exact Heap.lt_size e
  | dT kvs => obtain ⟨_, _, _, _, o, _, _, e, _⟩ := x; exact Heap.lt_size e
  | set S n => obtain ⟨o, _, _, _, e, _⟩ := x; exact Heap.lt_size e
  | ins C dx fs => obtain ⟨_, _, _, e, _⟩ := x; exact Heap.lt_size e
  | own y => obtain ⟨_, e⟩ := x; exact Heap.lt_size e
  | xd fs => obtain ⟨_, ⟨_, _, _, e, _⟩, _⟩ := x; exact Heap.lt_size e
  | rng lo hi => obtain ⟨_, _, _, e⟩ := x; exact Heap.lt_size e
  | frz ob u => obtain ⟨e, _⟩ := x; exact Heap.lt_size e
  | tbl ps => exact Heap.lt_size (show h.get? a = some _ from x)
  | met f y => exact Heap.lt_size (show h.get? a = some _ from x)
  | ext φ => obtain ⟨_, ⟨_, e⟩, _⟩ := x; exact Heap.lt_size e
theorem Paired.mapP {α β : Type} {F G : α → β → Prop} : ∀ {l₁ : List α} {l₂ : List β}, Paired F l₁ l₂ → (∀ a b, F a b → G a b) → Paired G l₁ l₂
  | _, _, .nil, _ => .nil
  | _, _, .cons r t, f => .cons (f _ _ r) (Paired.mapP t f)
theorem ObjOk.stay (x : ObjOk P w H h a o) (k : ∀ b u, (b = a ∨ H b = some (.own a)) → h.get? b = some u → h'.get? b = some u)
    (ho : ∀ b, H b = some (.own a) → H' b = some (.own a)) (ht : ∀ b xs, TupT H b xs → TupT H' b xs) : ObjOk P w H' h' a o := by
  induction o with
  | lst xs => obtain ⟨z, its, n, r, e⟩ := x; exact ⟨z, its, n, r, k _ _ (.inl rfl) e⟩
  | tup xs => obtain ⟨z, its, r, ob, e, c⟩ := x; exact ⟨z, its, r, ob, k _ _ (.inl rfl) e, c⟩
  | dK kvs => obtain ⟨z, y, vs, r, ob, es, ep, e, c⟩ := x; exact ⟨z, y, vs, r, ob, es, ep, k _ _ (.inl rfl) e, c⟩
  | dT kvs =>
    obtain ⟨z, y, xs, r, ob, es, ep, e, c⟩ := x
    exact ⟨z, y, xs, Paired.mapP r fun p q z => ⟨z.1, ht _ _ z.2.1, z.2.2⟩, ob, es, ep, k _ _ (.inl rfl) e, c⟩
  | set S n => obtain ⟨ob, es, ep, t, e, c⟩ := x; exact ⟨ob, es, ep, t, k _ _ (.inl rfl) e, c⟩
  | ins C dx fs =>
    obtain ⟨d, z, ne, e, mA, ⟨od, es, ep, e2, c⟩, r⟩ := x
    exact ⟨ho _ d, z, ne, k _ _ (.inl rfl) e, mA, ⟨od, es, ep, k _ _ (.inr d) e2, c⟩, r⟩
  | own y => obtain ⟨ob, e⟩ := x; exact ⟨ob, k _ _ (.inl rfl) e⟩
  | xd fs => obtain ⟨mA, ⟨od, es, ep, e, c⟩, r⟩ := x; exact ⟨mA, ⟨od, es, ep, k _ _ (.inl rfl) e, c⟩, r⟩
  | rng lo hi => obtain ⟨t, u, v, e⟩ := x; exact ⟨t, u, v, k _ _ (.inl rfl) e⟩
  | frz ob u ih => obtain ⟨e, q⟩ := x; exact ⟨k _ _ (.inl rfl) e, ih q⟩
  | tbl ps =>
    have e : h.get? a = some { cls := .none, data := .fields ps } := x
    show h'.get? a = some { cls := .none, data := .fields ps }
    exact k a _ (.inl rfl) e
  | met f y =>
    have e : h.get? a = some (PySem.W.methodObj (.ref f) (.ref y)) := x
    show h'.get? a = some (PySem.W.methodObj (.ref f) (.ref y))
    exact k a _ (.inl rfl) e
  | ext φ => obtain ⟨p, ⟨o, e⟩, st⟩ := x; exact ⟨st _ _ p fun o q => k _ _ (.inl rfl) q, ⟨o, k _ _ (.inl rfl) e⟩, st⟩
theorem HOk.lt (x : HOk P w H h) (e : H a = some o) : a < h.objs.size := (x a o e).lt
theorem HOk.fresh (x : HOk P w H h) (e : h.objs.size ≤ a) : H a = none := by
  cases q : H a with
  | none => rfl
  | some u => exact absurd (Nat.lt_of_lt_of_le (x.lt q) e) (Nat.lt_irrefl _)
theorem HOk.kept (x : HOk P w H h) (k : ∀ b u, h.get? b = some u → h'.get? b = some u) : HOk P w H h' := fun a o e =>
  (x a o e).stay (fun b u _ q => k b u q) (fun _ q => q) fun _ _ q => q
theorem HOk.laid (x : HOk P w H h) (k : ∀ b u, h.get? b = some u → h'.get? b = some u) (hp : h.objs.size ≤ a) (new : ObjOk P w (upd H a o) h' a o) : HOk P w (upd H a o) h' := fun b u e => by
  have hn := x.fresh hp
  by_cases hb : b = a
  · subst hb; rw [upd_same] at e; cases e; exact new
  · rw [upd_ne hb] at e
    exact (x b u e).stay (fun c v _ q => k c v q) (fun c q => by rw [upd_ne (ne_of_none q hn)]; exact q) fun c xs q => q.new hn
end
def Rd (H : Hp) (a : Addr) (u : HO) : Prop := H a = some u ∨ ∃ o, H a = some (.frz o u)
theorem Rd.of {H : Hp} {a : Addr} {u : HO} (h : H a = some u) : Rd H a u := .inl h
theorem Rd.ok {P : Program} {w : World} {H : Hp} {h : Heap} {a : Addr} {u : HO} (r : Rd H a u) (x : HOk P w H h) : ObjOk P w H h a u := by
  rcases r with r | ⟨o, r⟩
  · exact x a u r
  · obtain ⟨_, q⟩ := x a _ r
    exact q
section
variable {P : Program} {w : World} {H : Hp} {h h' : Heap} {x e : Addr} {o' : HO}
end
structure Un (fs ex : List Addr) (H H' : Hp) (h h' : Heap) : Prop where
  keep : ∀ b o, h.get? b = some o → H b = none → b ∉ fs → b ∉ ex → h'.get? b = some o
  slot : ∀ b o, h.get? b = some o → H b = none → b ∈ fs → b ∉ ex → ∃ sl, h'.get? b = some { o with slots := sl }
  free : ∀ b o, h.get? b = some o → H b = none → b ∉ ex → H' b = none
  there : ∀ b o, h.get? b = some o → b ∉ ex → ∃ o', h'.get? b = some o'
  tups : ∀ b xs, H b = some (.tup xs) → H' b = some (.tup xs)
  frzs : ∀ b o u, H b = some (.frz o u) → H' b = some (.frz o u)
  tbls : ∀ b ps, H b = some (.tbl ps) → ∃ more, H' b = some (.tbl (ps ++ more))
section
variable {fs fs' ex ex' : List Addr} {H H1 H2 : Hp} {h h1 h2 h' : Heap} {a x e : Addr} {o : HO}
theorem Un.any (u : Un fs ex H H1 h h1) {b : Addr} {ob : Obj} (q : h.get? b = some ob) (n : H b = none) (hx : b ∉ ex) : ∃ sl, h1.get? b = some { ob with slots := sl } := by
  by_cases hb : b ∈ fs
  · exact u.slot b ob q n hb hx
  · exact ⟨ob.slots, u.keep b ob q n hb hx⟩
theorem Un.trans (a : Un fs ex H H1 h h1) (b : Un fs ex H1 H2 h1 h2) : Un fs ex H H2 h h2 where
  keep := fun c ob q n hc hx => b.keep c ob (a.keep c ob q n hc hx) (a.free c ob q n hx) hc hx
  slot := fun c ob q n hc hx => by
    obtain ⟨sl, e1⟩ := a.slot c ob q n hc hx
    obtain ⟨sl', e2⟩ := b.slot c _ e1 (a.free c ob q n hx) hc hx
    exact ⟨sl', e2⟩
  free := fun c ob q n hx => by
    obtain ⟨o', e1⟩ := a.there c ob q hx
    exact b.free c o' e1 (a.free c ob q n hx) hx
  there := fun c ob q hx => by
    obtain ⟨o', e1⟩ := a.there c ob q hx
    exact b.there c o' e1 hx
  tups := fun c xs q => b.tups c xs (a.tups c xs q)
  frzs := fun c ob xs q => b.frzs c ob xs (a.frzs c ob xs q)
  tbls := fun c ps q => by
    obtain ⟨m1, e1⟩ := a.tbls c ps q
    obtain ⟨m2, e2⟩ := b.tbls c _ e1
    exact ⟨m1 ++ m2, by rw [e2, Array.append_assoc]⟩
theorem Un.kept (k : ∀ b u, h.get? b = some u → h'.get? b = some u) : Un fs ex H H h h' :=
  ⟨fun b ob q _ _ _ => k b ob q, fun b ob q _ _ _ => ⟨ob.slots, k b ob q⟩, fun _ _ _ n _ => n, fun b ob q _ => ⟨ob, k b ob q⟩, fun _ _ q => q, fun _ _ _ q => q, fun _ ps q => ⟨#[], by rw [q]; simp⟩⟩
theorem Un.refl : Un fs ex H H h h := Un.kept fun _ _ q => q
theorem Un.laid (k : ∀ b u, h.get? b = some u → h'.get? b = some u) (hp : h.objs.size ≤ a) (hn : H a = none) : Un fs ex H (upd H a o) h h' where
  keep := fun b u q _ _ _ => k b u q
  slot := fun b u q _ _ _ => ⟨u.slots, k b u q⟩
  free := fun b u q n _ => by rw [upd_ne (Nat.ne_of_lt (Nat.lt_of_lt_of_le (Heap.lt_size q) hp))]; exact n
  there := fun b u q _ => ⟨u, k b u q⟩
  tups := fun b xs q => by rw [upd_ne (ne_of_none q hn)]; exact q
  frzs := fun b u xs q => by rw [upd_ne (ne_of_none q hn)]; exact q
  tbls := fun b ps q => ⟨#[], by rw [upd_ne (ne_of_none q hn), q]; simp⟩
theorem Un.mono (u : Un fs ex H H1 h h1) (hs : ∀ b ∈ fs, b ∈ fs') (hx : ∀ b ∈ ex, b ∈ ex') : Un fs' ex' H H1 h h1 :=
  ⟨fun b ob q n hb he => u.keep b ob q n (fun z => hb (hs b z)) fun z => he (hx b z), fun _ _ q n _ he => u.any q n fun z => he (hx _ z), fun b ob q n he => u.free b ob q n fun z => he (hx b z), fun b ob q he => u.there b ob q fun z => he (hx b z), u.tups, u.frzs, u.tbls⟩
end
def trk (h : Heap) (H : Hp) : List Addr := (List.range h.objs.size).filter fun a => (H a).isSome
def hidT (h : Heap) (H : Hp) : Heap := PySem.W.hideAll h (trk h H)
theorem hidT_size (h : Heap) (H : Hp) : (hidT h H).objs.size = h.objs.size := PySem.W.hideAll_size _ _
theorem hidT_get {h : Heap} {H : Hp} {b : Addr} {o : Obj} (e : h.get? b = some o) (n : H b = none) : (hidT h H).get? b = some o :=
  PySem.W.hideAll_get _ e fun hm => by
    have q : (H b).isSome = true := (List.mem_filter.mp hm).2
    rw [n] at q; simp at q
theorem of_hidT {h : Heap} {H : Hp} {b : Addr} {o : Obj} (e : (hidT h H).get? b = some o) : h.get? b = some o ∧ H b = none := by
  have e' : h.get? b = some o := PySem.W.of_hideAll (trk h H) e
  refine ⟨e', ?_⟩
  cases q : H b with
  | none => rfl
  | some x =>
    have hm : b ∈ trk h H := List.mem_filter.mpr ⟨List.mem_range.mpr (Heap.lt_size e'), by simp [q]⟩
    have z : (hidT h H).get? b = none := PySem.W.hideAll_none (trk h H) hm
    rw [z] at e; cases e
def allNews (g h : Heap) (L : Addr) : List (Addr × Obj) := (List.range h.objs.size).filterMap fun a => if a = L ∨ (g.get? a).isSome = true then none else (h.get? a).map fun o => (a, o)
def rest (g h : Heap) (L d : Addr) : List (Addr × Obj) := (allNews g h L).filter fun p => decide (p.1 ≠ d)
end L2
namespace L2
open PySem PySem.Spec PyProof.Rows
structure Mod (K : PySem.W.Frag) (mg : Str → Option Value) (base : Heap) : Prop where
  kin : K.In base
  glob : base.Ns mainGlobals mg
  blt : ∃ mb, base.Ns builtinsNs mb ∧ ∀ x : Str, x ≠ "__name__" → mb x = bootBuiltins x
  nolimit : base.NoLimit
structure Cx where
  prog : Program
  w : World
  K : PySem.W.Frag
  mg : Str → Option Value
  base : Heap
  A : Around
  N : List Str
  s₀ : Shared
  H₀ : Hp
  env : Env
  outer : List Env
  stack : List Env
  ex : List Addr
  fn : Str → Bool
  calm : Bool
  pn : List (Addr × Obj)
  xe : Value → Shared → Prop
def frs (l : List Env) : List Addr := l.filterMap (·.frame)
abbrev Cx.fs (X : Cx) : List Addr := frs X.outer
def Vis (sc : Scope) (x : Str) : Prop := sc.names.lookup x = some .local ∨ sc.names.lookup x = some .cell ∨ sc.names.lookup x = some .free
def Loc (sc : Scope) (x : Str) : Prop := sc.names.lookup x = some .local ∨ sc.names.lookup x = some .cell
def Look (env : Env) (h : Heap) (m : Str → Option Value) (x : Str) (u : Value) : Prop :=
  (env.kindOf x = some .local ∧ m x = some u) ∨ ((env.kindOf x = some .cell ∨ env.kindOf x = some .free) ∧ ∃ c, env.cells.lookup x = some c ∧ h.IsCell c (some u))
structure Cx.Ok (X : Cx) : Prop where
  mod : Mod X.K X.mg X.base
  kind : X.env.scope.kind = .function
  glob : X.env.globals = mainGlobals
  blt : X.env.builtins = builtinsNs
  above : X.s₀.heap.objs.size ≤ X.env.locals
  inj : ∀ x y c, X.env.cells.lookup x = some c → X.env.cells.lookup y = some c → x = y
  has : ∀ x, (X.env.kindOf x = some .cell ∨ X.env.kindOf x = some .free) → ∃ c, X.env.cells.lookup x = some c
  cab : ∀ x c, X.fn x = true → X.env.cells.lookup x = some c → X.s₀.heap.objs.size ≤ c
  hd : X.calm = true → X.A.handled = none
  frames : X.A.frames = some X.stack
  stk : X.stack = X.outer ∨ (X.stack = X.env :: X.outer ∧ X.env.frame = some X.env.locals)
  exf : ∀ b ∈ X.ex, b ≠ X.env.locals ∧ ∀ x c, X.env.cells.lookup x = some c → c ≠ b
  bs : ∀ b o, X.base.get? b = some o → X.s₀.heap.get? b = some o ∧ X.H₀ b = none
  bsz : X.base.objs.size ≤ X.s₀.heap.objs.size
  noex : ∀ b o, X.base.get? b = some o → b ∉ X.ex
  exfs : ∀ b ∈ X.ex, b ∉ X.fs
  funs : X.s₀.heap.FunFrames X.base X.outer
  frf : ∀ b ∈ X.fs, X.H₀ b = none
structure Inv (X : Cx) (pins : List (Addr × Obj)) (σ : List (Option V)) (H : Hp) (s : Shared) : Prop where
  ok : X.Ok
  os : s.os = X.s₀.os
  bare : AllBare s.gens
  base : Un X.fs X.ex X.H₀ H X.s₀.heap s.heap
  loc : ∃ m, s.heap.Ns X.env.locals m ∧ ∀ (i : Nat) (x : Str) (v : V), X.N[i]? = some x → σ[i]? = some (some v) → Vis X.env.scope x → ∃ u, RelV v u ∧ Look X.env s.heap m x u
  cell : ∀ x c, X.env.cells.lookup x = some c → ∃ v, s.heap.IsCell c v
  free : H X.env.locals = none
  freeC : ∀ x c, X.env.cells.lookup x = some c → H c = none
  pin : ∀ p ∈ X.pn ++ pins, s.heap.get? p.1 = some p.2 ∧ H p.1 = none ∧ p.1 ≠ X.env.locals ∧ p.1 ∉ X.fs ∧ ∀ v, p.2.data ≠ .cell v
  hok : HOk X.prog X.w H s.heap
  len : σ.length = X.N.length
section
variable {X : Cx} {pins : List (Addr × Obj)} {σ : List (Option V)} {H H' : Hp} {s : Shared} {h' : Heap}
theorem Cx.Ok.nofr (ok : X.Ok) {b : Addr} {o : Obj} (e : X.base.get? b = some o) : b ∉ X.fs := fun hb => by
  have := (ok.funs.mem hb).1
  rw [e] at this; cases this
theorem Inv.bs (I : Inv X pins σ H s) : ∀ b o, X.base.get? b = some o → s.heap.get? b = some o ∧ H b = none := fun b o e =>
  ⟨I.base.keep b o (I.ok.bs b o e).1 (I.ok.bs b o e).2 (I.ok.nofr e) (I.ok.noex b o e), I.base.free b o (I.ok.bs b o e).1 (I.ok.bs b o e).2 (I.ok.noex b o e)⟩
theorem Inv.bk (I : Inv X pins σ H s) : ∀ b o, X.base.get? b = some o → s.heap.get? b = some o := fun b o e => (I.bs b o e).1
theorem Inv.mod (I : Inv X pins σ H s) : Mod X.K X.mg X.base := I.ok.mod
theorem Inv.kIn (I : Inv X pins σ H s) : X.K.In s.heap := I.ok.mod.kin.keeps I.bk
theorem Inv.nolimit (I : Inv X pins σ H s) : s.heap.NoLimit := I.ok.mod.nolimit.keeps I.bk
theorem Inv.fr (I : Inv X pins σ H s) : ∃ m, Fr X.base X.env.locals s.heap m :=
  let ⟨m, hn, _⟩ := I.loc
  ⟨m, hn, I.bk, Nat.le_trans I.ok.bsz I.ok.above⟩
theorem Inv.lt (I : Inv X pins σ H s) : X.env.locals < s.heap.objs.size := let ⟨_, hn, _⟩ := I.loc; hn.lt
theorem Inv.sz (I : Inv X pins σ H s) : X.s₀.heap.objs.size ≤ s.heap.objs.size := Nat.le_trans I.ok.above (Nat.le_of_lt I.lt)
theorem Inv.nofs (I : Inv X pins σ H s) {a : Addr} (h : s.heap.objs.size ≤ a) : a ∉ X.fs := fun hb => by
  obtain ⟨_, o, ho, _⟩ := I.ok.funs.mem hb
  exact absurd (Nat.lt_of_lt_of_le (Heap.lt_size ho) (Nat.le_trans I.sz h)) (Nat.lt_irrefl _)
theorem Inv.cne (I : Inv X pins σ H s) : ∀ x c, X.env.cells.lookup x = some c → c ≠ X.env.locals := fun x c e z => by
  obtain ⟨v, o, ho, hd⟩ := I.cell x c e
  obtain ⟨m, ⟨o', es, ep, ho', hd', _⟩, _⟩ := I.loc
  rw [z, ho'] at ho; cases ho; rw [hd'] at hd; cases hd
theorem Inv.funs (I : Inv X pins σ H s) : s.heap.FunFrames X.base X.outer := by
  have all : ∀ (l : List Env), (∀ b ∈ frs l, b ∈ X.fs) → X.s₀.heap.FunFrames X.base l → s.heap.FunFrames X.base l := by
    intro l
    induction l with
    | nil => intro _ _; trivial
    | cons env r ih =>
      intro hs hl
      obtain ⟨hk, ⟨L, o, hf, hn, ho, hd⟩, hr⟩ := hl
      have hL : L ∈ X.fs := hs L (by unfold frs; rw [List.filterMap_cons, hf]; exact List.mem_cons_self)
      obtain ⟨sl, e⟩ := I.base.slot L o ho (I.ok.frf L hL) hL fun z => I.ok.exfs L z hL
      exact ⟨hk, ⟨L, _, hf, hn, e, hd⟩, ih (fun b hb => hs b (by unfold frs; rw [List.filterMap_cons, hf]; exact List.mem_cons_of_mem _ hb)) hr⟩
  exact all X.outer (fun _ hb => hb) I.ok.funs
theorem Inv.stack (I : Inv X pins σ H s) : s.heap.FunFrames X.base X.stack := by
  rcases I.ok.stk with e | ⟨e, hf⟩
  · rw [e]; exact I.funs
  · rw [e]
    obtain ⟨m, hn, _⟩ := I.loc
    refine .cons (by rw [I.ok.kind]; decide) hf hn ?_ I.funs
    exact Heap.get?_none_of_le (Nat.le_trans I.ok.bsz I.ok.above)
theorem Inv.stkSub (I : Inv X pins σ H s) : ∀ b ∈ frs X.stack, b ∈ X.env.locals :: X.fs := fun b hb => by
  rcases I.ok.stk with e | ⟨e, hf⟩
  · rw [e] at hb; exact List.mem_cons_of_mem _ hb
  · rw [e] at hb
    unfold frs at hb
    rw [List.filterMap_cons, hf] at hb
    exact hb
theorem Inv.stkFree (I : Inv X pins σ H s) : ∀ b ∈ frs X.stack, H b = none := fun b hb => by
  rcases List.mem_cons.mp (I.stkSub b hb) with e | hb
  · rw [e]; exact I.free
  · obtain ⟨_, o, ho, _⟩ := I.ok.funs.mem hb
    exact I.base.free b o ho (I.ok.frf b hb) fun z => I.ok.exfs b z hb
theorem Inv.step {g' : Array GenState} {t' : Nat} {d' : Drawn} {ch : List Addr} (I : Inv X pins σ H s)
    (hch : ∀ b ∈ ch, (b ∈ X.ex ∨ X.s₀.heap.objs.size ≤ b) ∧ b ≠ X.env.locals ∧ (∀ x c, X.env.cells.lookup x = some c → c ≠ b) ∧ ∀ p ∈ X.pn ++ pins, p.1 ≠ b)
    (keep : ∀ b o, b ≠ X.env.locals → b ∉ X.fs → b ∉ ch → s.heap.get? b = some o → H b = none → h'.get? b = some o)
    (slot : ∀ b o, b ≠ X.env.locals → b ∈ X.fs → b ∉ ch → s.heap.get? b = some o → H b = none → ∃ sl, h'.get? b = some { o with slots := sl }) (free : ∀ b o, b ∉ ch → s.heap.get? b = some o → H b = none → H' b = none)
    (there : ∀ b o, b ∉ ch → s.heap.get? b = some o → ∃ o', h'.get? b = some o')
    (tups : ∀ b xs, H b = some (.tup xs) → H' b = some (.tup xs)) (frzs : ∀ b o u, H b = some (.frz o u) → H' b = some (.frz o u)) (tbls : ∀ b ps, H b = some (.tbl ps) → ∃ more, H' b = some (.tbl (ps ++ more)))
    (ns : ∀ m, s.heap.Ns X.env.locals m → h'.Ns X.env.locals m) (hok : HOk X.prog X.w H' h') (hg : AllBare g') :
    Inv X pins σ H' { s with heap := h', gens := g', drawn := d', toks := t' } := by
  have neL : ∀ b o, X.s₀.heap.get? b = some o → b ≠ X.env.locals := fun b o e => Nat.ne_of_lt (Nat.lt_of_lt_of_le (Heap.lt_size e) I.ok.above)
  have neC : ∀ b o, X.s₀.heap.get? b = some o → b ∉ X.ex → b ∉ ch := fun b o e hx hb => by
    rcases (hch b hb).1 with z | z
    · exact hx z
    · exact absurd (Nat.lt_of_lt_of_le (Heap.lt_size e) z) (Nat.lt_irrefl _)
  have cellK : ∀ x c, X.env.cells.lookup x = some c → ∀ v, s.heap.IsCell c v → h'.IsCell c v := fun x c e v ⟨o, ho, hd⟩ => by
    have nch : c ∉ ch := fun z => (hch c z).2.2.1 x c e rfl
    by_cases hc : c ∈ X.fs
    · obtain ⟨sl, q⟩ := slot c o (I.cne x c e) hc nch ho (I.freeC x c e)
      exact ⟨_, q, hd⟩
    · exact ⟨o, keep c o (I.cne x c e) hc nch ho (I.freeC x c e), hd⟩
  refine ⟨I.ok, I.os, hg, ⟨fun b o e n hb hx => ?_, fun b o e n hb hx => ?_, fun b o e n hx => ?_, fun b o e hx => ?_, fun b xs e => tups b xs (I.base.tups b xs e), fun b o xs e => frzs b o xs (I.base.frzs b o xs e), fun b ps e => ?_⟩, ?_, fun x c e => ?_, ?_, fun x c e => ?_, fun p hp => ?_, hok, I.len⟩
  · exact keep b o (neL b o e) hb (neC b o e hx) (I.base.keep b o e n hb hx) (I.base.free b o e n hx)
  · obtain ⟨sl, e1⟩ := I.base.slot b o e n hb hx
    obtain ⟨sl', e2⟩ := slot b _ (neL b o e) hb (neC b o e hx) e1 (I.base.free b o e n hx)
    exact ⟨sl', e2⟩
  · obtain ⟨o', e1⟩ := I.base.there b o e hx
    exact free b o' (neC b o e hx) e1 (I.base.free b o e n hx)
  · obtain ⟨o', e1⟩ := I.base.there b o e hx
    exact there b o' (neC b o e hx) e1
  · obtain ⟨m1, e1⟩ := I.base.tbls b ps e
    obtain ⟨m2, e2⟩ := tbls b _ e1
    exact ⟨m1 ++ m2, by rw [e2, Array.append_assoc]⟩
  · obtain ⟨m, hn, hl⟩ := I.loc
    refine ⟨m, ns m hn, fun i x v e1 e2 e3 => ?_⟩
    obtain ⟨u, r, l⟩ := hl i x v e1 e2 e3
    refine ⟨u, r, ?_⟩
    rcases l with l | ⟨k, c, e, z⟩
    · exact .inl l
    · exact .inr ⟨k, c, e, cellK x c e _ z⟩
  · obtain ⟨v, z⟩ := I.cell x c e
    exact ⟨v, cellK x c e v z⟩
  · obtain ⟨m, ⟨o, _, _, ho, _⟩, _⟩ := I.loc
    exact free _ o (fun z => (hch _ z).2.1 rfl) ho I.free
  · obtain ⟨v, o, ho, hd⟩ := I.cell x c e
    exact free c o (fun z => (hch c z).2.2.1 x c e rfl) ho (I.freeC x c e)
  · obtain ⟨e, n, ne, nf, d⟩ := I.pin p hp
    have nch : p.1 ∉ ch := fun z => (hch p.1 z).2.2.2 p hp rfl
    exact ⟨keep p.1 p.2 ne nf nch e n, free p.1 p.2 nch e n, ne, nf, d⟩
theorem Inv.un {t' : Nat} (I : Inv X pins σ H s) (u : Un X.fs [] H H' s.heap h') (hok : HOk X.prog X.w H' h') : Inv X pins σ H' { s with heap := h', toks := t' } := by
  obtain ⟨m, ⟨o, es, ep, ho, r⟩, _⟩ := id I.loc
  obtain ⟨sl, hL⟩ := u.any ho I.free (by simp)
  exact I.step (g' := s.gens) (d' := s.drawn) (ch := []) (fun _ z => nomatch z) (fun b o _ hb _ e n => u.keep b o e n hb (by simp)) (fun b o _ hb _ e n => u.slot b o e n hb (by simp)) (fun b o _ e n => u.free b o e n (by simp)) (fun b o _ e => u.there b o e (by simp)) u.tups u.frzs u.tbls (fun m' hm => by
    obtain ⟨o', es', ep', ho', r'⟩ := hm
    rw [ho] at ho'; cases ho'
    exact ⟨_, es', ep', hL, r'⟩) hok I.bare
theorem Inv.call {g' : Array GenState} {t' : Nat} {d' : Drawn} {ch : List Addr} (I : Inv X pins σ H s) (u : Un (frs X.stack) ch H H' s.heap h') (hok : HOk X.prog X.w H' h') (hg : AllBare g')
    (hch : ∀ b ∈ ch, (b ∈ X.ex ∨ X.s₀.heap.objs.size ≤ b) ∧ b ≠ X.env.locals ∧ (∀ x c, X.env.cells.lookup x = some c → c ≠ b) ∧ ∀ p ∈ X.pn ++ pins, p.1 ≠ b) :
    Inv X pins σ H' { s with heap := h', gens := g', drawn := d', toks := t' } := by
  obtain ⟨m, ⟨o, es, ep, ho, r⟩, _⟩ := id I.loc
  obtain ⟨sl, hL⟩ := u.any ho I.free fun z => (hch _ z).2.1 rfl
  exact I.step (ch := ch) hch (fun b o hL hb hc e n => u.keep b o e n (fun z => (List.mem_cons.mp (I.stkSub b z)).elim hL hb) hc) (fun b o _ _ hc e n => u.any e n hc) (fun b o hc e n => u.free b o e n hc) (fun b o hc e => u.there b o e hc) u.tups u.frzs u.tbls (fun m' hm => by
    obtain ⟨o', es', ep', ho', r'⟩ := hm
    rw [ho] at ho'; cases ho'
    exact ⟨_, es', ep', hL, r'⟩) hok hg
theorem Inv.turned {t' : Nat} {it : Addr} (I : Inv X pins σ H s) (k : ∀ b o, b ≠ it → s.heap.get? b = some o → h'.get? b = some o) (hn : H it = none) (hL : it ≠ X.env.locals)
    (h1 : it ∈ X.ex ∨ X.s₀.heap.objs.size ≤ it) (h2 : ∀ x c, X.env.cells.lookup x = some c → c ≠ it) (h3 : ∀ p ∈ X.pn ++ pins, p.1 ≠ it) : Inv X pins σ H { s with heap := h', toks := t' } := by
  have nit : ∀ b u, H b = some u → b ≠ it := fun b u e z => by rw [z, hn] at e; cases e
  refine I.step (g' := s.gens) (d' := s.drawn) (ch := [it]) (fun b hb => ?_) (fun b o _ _ hc e _ => k b o (fun z => hc (by simp [z])) e) (fun b o _ _ hc e _ => ⟨o.slots, k b o (fun z => hc (by simp [z])) e⟩) (fun _ _ _ _ n => n)
    (fun b o hc e => ⟨o, k b o (fun z => hc (by simp [z])) e⟩) (fun _ _ e => e) (fun _ _ _ e => e) (fun b ps e => ⟨#[], by rw [e]; simp⟩) (fun m hm => ?_) (fun b u e => ?_) I.bare
  · have e : b = it := by simpa using hb
    subst e
    exact ⟨h1, hL, h2, h3⟩
  · obtain ⟨o, es, ep, ho, r⟩ := hm
    exact ⟨o, es, ep, k _ o (Ne.symm hL) ho, r⟩
  · refine (I.hok b u e).stay (fun c v hc q => k c v ?_ q) (fun _ q => q) fun _ _ q => q
    rcases hc with z | z
    · rw [z]; exact nit b u e
    · exact nit c _ z
theorem Inv.tok (I : Inv X pins σ H s) (t : Nat) : Inv X pins σ H { s with toks := t } := I.un (h' := s.heap) (t' := t) Un.refl I.hok
theorem Inv.kept {t' : Nat} (I : Inv X pins σ H s) (k : ∀ b u, s.heap.get? b = some u → h'.get? b = some u) : Inv X pins σ H { s with heap := h', toks := t' } := I.un (Un.kept k) (I.hok.kept k)
theorem Inv.laid {a : Addr} {o : HO} {t' : Nat} (I : Inv X pins σ H s) (k : ∀ b u, s.heap.get? b = some u → h'.get? b = some u) (hp : s.heap.objs.size ≤ a) (new : ObjOk X.prog X.w (upd H a o) h' a o) :
    Inv X pins σ (upd H a o) { s with heap := h', toks := t' } := I.un (Un.laid k hp (I.hok.fresh hp)) (I.hok.laid k hp new)
theorem Inv.pins_of {pins' : List (Addr × Obj)} (I : Inv X pins σ H s) (h : ∀ p ∈ pins', s.heap.get? p.1 = some p.2 ∧ H p.1 = none ∧ p.1 ≠ X.env.locals ∧ p.1 ∉ X.fs ∧ ∀ v, p.2.data ≠ .cell v) : Inv X pins' σ H s :=
  ⟨I.ok, I.os, I.bare, I.base, I.loc, I.cell, I.free, I.freeC, fun p hp => (List.mem_append.mp hp).elim (fun z => I.pin p (List.mem_append_left _ z)) (h p), I.hok, I.len⟩
theorem nodup_ix {N : List Str} (hN : N.Nodup) {i j : Nat} {x : Str} (a : N[i]? = some x) (b : N[j]? = some x) : i = j := by
  obtain ⟨h1, e1⟩ := List.getElem?_eq_some_iff.mp a
  obtain ⟨h2, e2⟩ := List.getElem?_eq_some_iff.mp b
  exact (List.getElem_inj hN).mp (e1.trans e2.symm)
theorem store_ok2 {M : Model} {A : Around} {E : Value → Shared → Prop} {i : Nat} {x : Str} {v : V} {u : Value} {Q : Unit → Shared → Prop} (I : Inv X pins σ H s) (hN : X.N.Nodup) (hi : X.N[i]? = some x) (hx : Loc X.env.scope x) (r : RelV v u)
    (h : ∀ s', Inv X pins (σ.set i (some v)) H s' → (∃ a, Heap.SameBut a s.heap s'.heap ∧ (a = X.env.locals ∨ X.env.cells.lookup x = some a)) → Q () s') (hf : X.fn x = true ∨ X.env.scope.names.lookup x = some .local := by first | exact .inl rfl | exact .inr rfl | assumption) : wpAny M A (storeName X.env x u) Q E s := by
  obtain ⟨m, hn, hl⟩ := id I.loc
  have hcls : (X.env.scope.kind == .class || (X.env.scope.kind == .module && X.env.locals != X.env.globals)) = false := by rw [I.ok.kind]; rfl
  have hiσ : i < σ.length := by rw [I.len]; exact (List.getElem?_eq_some_iff.mp hi).1
  have cne := I.cne
  have tracked : ∀ {a : Addr} {h' : Heap}, (∃ o, s.heap.get? a = some o ∧ H a = none) → Heap.SameBut a s.heap h' → HOk X.prog X.w H h' := fun {a h'} ha hs b ob e => by
    obtain ⟨_, _, hfree⟩ := ha
    refine (I.hok b ob e).stay (fun c w' hc q => (hs.2 c ?_).trans q) (fun _ q => q) fun _ _ q => q
    rintro rfl
    rcases hc with rfl | hc
    · rw [hfree] at e; cases e
    · rw [hfree] at hc; cases hc
  rcases hx with hk | hk
  · refine wpAny_storeName_local hk hn (fun h' hn' hs => ?_) hcls
    obtain ⟨oL, _, _, hoL, _⟩ := id hn
    refine h _ ⟨I.ok, I.os, I.bare, ⟨fun b o e n hb hx => ?_, fun b o e n hb hx => ?_, I.base.free, fun b o e hx => ?_, I.base.tups, I.base.frzs, I.base.tbls⟩, ⟨_, hn', fun j y v' e1 e2 e3 => ?_⟩, fun y c e => ?_, I.free, I.freeC, fun p hp => ?_, tracked ⟨oL, hoL, I.free⟩ hs, by simpa using I.len⟩ ⟨_, hs, .inl rfl⟩
    · exact (hs.2 b (Nat.ne_of_lt (Nat.lt_of_lt_of_le (Heap.lt_size e) I.ok.above))).trans (I.base.keep b o e n hb hx)
    · obtain ⟨sl, e1⟩ := I.base.slot b o e n hb hx
      exact ⟨sl, (hs.2 b (Nat.ne_of_lt (Nat.lt_of_lt_of_le (Heap.lt_size e) I.ok.above))).trans e1⟩
    · obtain ⟨o', e1⟩ := I.base.there b o e hx
      exact ⟨o', (hs.2 b (Nat.ne_of_lt (Nat.lt_of_lt_of_le (Heap.lt_size e) I.ok.above))).trans e1⟩
    · by_cases hj : j = i
      · subst hj
        rw [hi] at e1; cases e1
        rw [List.getElem?_set_self hiσ] at e2
        cases e2
        exact ⟨u, r, .inl ⟨hk, by simp⟩⟩
      · rw [List.getElem?_set_ne (Ne.symm hj)] at e2
        obtain ⟨u', r', q⟩ := hl j y v' e1 e2 e3
        refine ⟨u', r', ?_⟩
        rcases q with ⟨k, e⟩ | ⟨k, c, e, z⟩
        · refine .inl ⟨k, ?_⟩
          have : y ≠ x := fun e => hj (nodup_ix hN e1 (e ▸ hi))
          simp [this, e]
        · exact .inr ⟨k, c, e, z.sameBut hs (cne y c e)⟩
    · obtain ⟨w', z⟩ := I.cell y c e
      exact ⟨w', z.sameBut hs (cne y c e)⟩
    · obtain ⟨e, n, ne, nf, d⟩ := I.pin p hp
      exact ⟨(hs.2 p.1 ne).trans e, n, ne, nf, d⟩
  · have hfn : X.fn x = true := by
      rcases hf with z | z
      · exact z
      · rw [z] at hk; cases hk
    obtain ⟨c, hc⟩ := I.ok.has x (.inl hk)
    obtain ⟨w', z⟩ := I.cell x c hc
    refine wpAny_storeName_cell I.ok.kind hk hc z (fun h' hc' hs => ?_)
    obtain ⟨oc, hoc, hocd⟩ := id z
    refine h { s with heap := h' } ⟨I.ok, I.os, I.bare, ⟨fun b o e n hb hx => ?_, fun b o e n hb hx => ?_, I.base.free, fun b o e hx => ?_, I.base.tups, I.base.frzs, I.base.tbls⟩, ⟨m, hn.sameBut hs (Ne.symm (cne x c hc)), fun j y v' e1 e2 e3 => ?_⟩, fun y c' e => ?_, I.free, I.freeC, fun p hp => ?_, tracked ⟨oc, hoc, I.freeC x c hc⟩ hs, by simpa using I.len⟩ ⟨c, hs, .inr hc⟩
    · exact (hs.2 b (Nat.ne_of_lt (Nat.lt_of_lt_of_le (Heap.lt_size e) (I.ok.cab x c hfn hc)))).trans (I.base.keep b o e n hb hx)
    · obtain ⟨sl, e1⟩ := I.base.slot b o e n hb hx
      exact ⟨sl, (hs.2 b (Nat.ne_of_lt (Nat.lt_of_lt_of_le (Heap.lt_size e) (I.ok.cab x c hfn hc)))).trans e1⟩
    · obtain ⟨o', e1⟩ := I.base.there b o e hx
      exact ⟨o', (hs.2 b (Nat.ne_of_lt (Nat.lt_of_lt_of_le (Heap.lt_size e) (I.ok.cab x c hfn hc)))).trans e1⟩
    · by_cases hj : j = i
      · subst hj
        rw [hi] at e1; cases e1
        rw [List.getElem?_set_self hiσ] at e2
        cases e2
        exact ⟨u, r, .inr ⟨.inl hk, c, hc, hc'⟩⟩
      · rw [List.getElem?_set_ne (Ne.symm hj)] at e2
        obtain ⟨u', r', q⟩ := hl j y v' e1 e2 e3
        refine ⟨u', r', ?_⟩
        rcases q with q | ⟨k, c', e, z'⟩
        · exact .inl q
        · refine .inr ⟨k, c', e, z'.sameBut hs ?_⟩
          rintro rfl
          exact hj (nodup_ix hN e1 (I.ok.inj _ _ _ e hc ▸ hi))
    · by_cases hcc : c' = c
      · subst hcc; exact ⟨_, hc'⟩
      · obtain ⟨w2, z2⟩ := I.cell y c' e
        exact ⟨w2, z2.sameBut hs hcc⟩
    · obtain ⟨e, n, ne, nf, d⟩ := I.pin p hp
      refine ⟨(hs.2 p.1 ?_).trans e, n, ne, nf, d⟩
      intro q
      rw [q, hoc] at e
      have q' : oc = p.2 := Option.some.inj e
      exact d w' (by rw [← q']; exact hocd)
theorem store_ok {M : Model} {A : Around} {E : Value → Shared → Prop} {i : Nat} {x : Str} {v : V} {u : Value} {Q : Unit → Shared → Prop} (I : Inv X pins σ H s) (hN : X.N.Nodup) (hi : X.N[i]? = some x) (hx : Loc X.env.scope x) (r : RelV v u)
    (h : ∀ s', Inv X pins (σ.set i (some v)) H s' → Q () s') (hf : X.fn x = true ∨ X.env.scope.names.lookup x = some .local := by first | exact .inl rfl | exact .inr rfl | assumption) : wpAny M A (storeName X.env x u) Q E s :=
  store_ok2 I hN hi hx r (fun s' I' _ => h s' I') hf
end
abbrev XK := Value → Option Addr → Hp → Prop
abbrev St := List (Option V)
abbrev VK := V → Hp → Prop
abbrev TE := St → Hp → VK → Prop
abbrev TT := St → Hp → (Bool → Hp → Prop) → Prop
abbrev TA := St → Hp → (List V → Hp → Prop) → Prop
structure Ends where
  nx : St → Hp → Prop
  rt : VK
  bk : St → Hp → Prop := fun _ _ => False
  ct : St → Hp → Prop := fun _ _ => False
abbrev TS := Ends → St → Hp → Prop
def EP (X : Cx) (pins : List (Addr × Obj)) (σ : St) (Q : VK) (u : Value) (s' : Shared) : Prop := ∃ v H', Inv X pins σ H' s' ∧ RelV v u ∧ Q v H'
def TP (X : Cx) (pins : List (Addr × Obj)) (σ : St) (Q : Bool → Hp → Prop) (b : Bool) (s' : Shared) : Prop := ∃ H', Inv X pins σ H' s' ∧ Q b H'
def AP (X : Cx) (pins : List (Addr × Obj)) (σ : St) (Q : List V → Hp → Prop) (us : List Value) (s' : Shared) : Prop := ∃ vs H', Inv X pins σ H' s' ∧ Vals vs us ∧ Q vs H'
def SP (X : Cx) (pins : List (Addr × Obj)) (D : Ends) (f : Flow) (s' : Shared) : Prop :=
  match f with
  | .next => ∃ σ' H', Inv X pins σ' H' s' ∧ D.nx σ' H'
  | .brk => ∃ σ' H', Inv X pins σ' H' s' ∧ D.bk σ' H'
  | .cont => ∃ σ' H', Inv X pins σ' H' s' ∧ D.ct σ' H'
  | .ret u => ∃ v σ' H', Inv X pins σ' H' s' ∧ RelV v u ∧ D.rt v H'
def PE (X : Cx) (e : Expr) (t : TE) : Prop :=
  ∀ (pins : List (Addr × Obj)) (s : Shared) (σ : St) (H : Hp) (Q : VK), Inv X pins σ H s → t σ H Q → wpAny (model X.prog X.w) X.A (eval e X.env) (EP X pins σ Q) X.xe s
def PT (X : Cx) (e : Expr) (t : TT) : Prop :=
  ∀ (pins : List (Addr × Obj)) (s : Shared) (σ : St) (H : Hp) (Q : Bool → Hp → Prop), Inv X pins σ H s → t σ H Q → wpAny (model X.prog X.w) X.A (isTrue e X.env (eval e X.env)) (TP X pins σ Q) X.xe s
def PW (X : Cx) (e : Expr) (t : TT) : Prop :=
  ∀ (whole : Sem Value) (pins : List (Addr × Obj)) (s : Shared) (σ : St) (H : Hp) (Q : Bool → Hp → Prop), Inv X pins σ H s → t σ H Q → wpAny (model X.prog X.w) X.A (isTrue e X.env whole) (TP X pins σ Q) X.xe s
theorem PW.pt {X : Cx} {e : Expr} {t : TT} (h : PW X e t) : PT X e t := h _
def PA (X : Cx) (es : List Expr) (t : TA) : Prop :=
  ∀ (pos : Pos) (pins : List (Addr × Obj)) (s : Shared) (σ : St) (H : Hp) (Q : List V → Hp → Prop), Inv X pins σ H s → t σ H Q → wpAny (model X.prog X.w) X.A (spliced (backTo pos (starEach es X.env))) (AP X pins σ Q) X.xe s
def PS (X : Cx) (st : Stmt) (t : TS) : Prop :=
  ∀ (pins : List (Addr × Obj)) (s : Shared) (σ : St) (H : Hp) (D : Ends), Inv X pins σ H s → t D σ H → wpAny (model X.prog X.w) X.A (exec st X.env) (SP X pins D) X.xe s
def PSs (X : Cx) (st : List Stmt) (t : TS) : Prop :=
  ∀ (pins : List (Addr × Obj)) (s : Shared) (σ : St) (H : Hp) (D : Ends), Inv X pins σ H s → t D σ H → wpAny (model X.prog X.w) X.A (execs st X.env) (SP X pins D) X.xe s
theorem thn {α : Type} {t : Sem α} {Q Q' : α → Shared → Prop} {M : Model} {A : Around} {E : Value → Shared → Prop} {s : Shared} (h : wpAny M A t Q E s) (hQ : ∀ a s, Q a s → Q' a s) : wpAny M A t Q' E s := wpAny_mono h hQ fun _ _ x => x
end L2
namespace L2
open PySem PySem.Spec PyProof.Rows
section
variable {X : Cx}
def tVar (i : Nat) : TE := fun σ H Q => ∃ v, σ[i]? = some (some v) ∧ Q v H
def tC (v : V) : TE := fun _ H Q => Q v H
theorem pe_var {i : Nat} {x : Str} {pos : Pos} (hN : X.N[i]? = some x) (hv : Vis X.env.scope x) (hd : (x == ("__debug__" : Str)) = false := by decide) (hcd : (x == ("__classdict__" : Str)) = false := by decide) : PE X (.Name x pos) (tVar i) := by
  intro pins s σ H Q I h
  obtain ⟨v, e, h⟩ := h
  obtain ⟨m, hn, hl⟩ := I.loc
  obtain ⟨u, r, l⟩ := hl i x v hN e hv
  have fin : EP X pins σ Q u s := ⟨v, H, I, r, h⟩
  rcases l with ⟨hk, hm⟩ | ⟨hk, c, hc, hcell⟩
  · exact wpAny_Name (wpAny_loadName_local I.ok.kind hk hn hm fin) hd
  · rcases hk with hk | hk
    · exact wpAny_Name (wpAny_loadName_cell I.ok.kind hk hc hcell fin) hd
    · exact wpAny_Name (wpAny_loadName_free I.ok.kind hk hc hcell fin hcd) hd
theorem pe_int {i j pos} : PE X (.Constant (.int i) j pos) (tC (.int i)) := fun _ _ _ H _ I h => wpAny_Constant_int ⟨.int i, H, I.tok _, ⟨_, rfl⟩, h⟩
theorem pe_bl {b j pos} : PE X (.Constant (.bool b) j pos) (tC (.bl b)) := fun _ _ _ H _ I h => Constant_bool ⟨.bl b, H, I, rfl, h⟩
def Gl (X : Cx) (x : Str) : Prop := X.env.kindOf x = some .globalImplicit
theorem ld_glob {E : Value → Shared → Prop} {pins : List (Addr × Obj)} {s : Shared} {σ : St} {H : Hp} {x : Str} {u : Value} {pos : Pos} {Q : Value → Shared → Prop} (I : Inv X pins σ H s) (hg : Gl X x) (hm : X.mg x = some u) (h : Q u s)
    (hd : (x == ("__debug__" : Str)) = false := by decide) : wpAny (model X.prog X.w) X.A (eval (.Name x pos) X.env) Q E s :=
  Calls.Name_function_global I.ok.kind hg (Calls.loadGlobal_global (by rw [I.ok.glob]; exact I.mod.glob.keeps I.bk) hm h) hd
theorem ld_blt {E : Value → Shared → Prop} {pins : List (Addr × Obj)} {s : Shared} {σ : St} {H : Hp} {x : Str} {u : Value} {pos : Pos} {Q : Value → Shared → Prop} (I : Inv X pins σ H s) (hg : Gl X x) (hm : X.mg x = none) (hv : bootBuiltins x = some u) (h : Q u s)
    (hn : x ≠ "__name__" := by decide) (hd : (x == ("__debug__" : Str)) = false := by decide) : wpAny (model X.prog X.w) X.A (eval (.Name x pos) X.env) Q E s := by
  obtain ⟨mb, h1, h2⟩ := I.mod.blt
  exact Calls.Name_function_global I.ok.kind hg (Calls.loadGlobal_builtin (by rw [I.ok.glob]; exact I.mod.glob.keeps I.bk) hm (by rw [I.ok.blt]; exact h1.keeps I.bk) ((h2 x hn).trans hv) h) hd
theorem pe_glob {x : Str} {v : V} {u : Value} {pos : Pos} (hg : Gl X x) (hm : X.mg x = some u) (r : RelV v u) (hd : (x == ("__debug__" : Str)) = false := by decide) : PE X (.Name x pos) (tC v) :=
  fun _ _ _ H _ I h => ld_glob I hg hm ⟨v, H, I, r, h⟩ hd
theorem pe_bltn {x : Str} {v : V} {u : Value} {pos : Pos} (hg : Gl X x) (hm : X.mg x = none) (hv : bootBuiltins x = some u) (r : RelV v u) (hn : x ≠ "__name__" := by decide) (hd : (x == ("__debug__" : Str)) = false := by decide) : PE X (.Name x pos) (tC v) :=
  fun _ _ _ H _ I h => ld_blt I hg hm hv ⟨v, H, I, r, h⟩ hn hd
variable {a b : Expr} {ta tb : TE} {pos : Pos}
variable {tA tB' : TT} {rest : List Expr}
def tAnd (t u : TT) : TT := fun σ H Q => t σ H fun c H1 => if c = true then u σ H1 Q else Q false H1
def tOr (t u : TT) : TT := fun σ H Q => t σ H fun c H1 => if c = true then Q true H1 else u σ H1 Q
def tNot (t : TT) : TT := fun σ H Q => t σ H fun c H1 => Q (!c) H1
theorem pw_and1 (ha : PT X a tA) : PW X (.BoolOp .And [a] pos) tA := by
  intro wh pins s σ H Q I h
  refine isTrue_and (thn (ha pins s σ H Q I h) fun c s1 e => ?_)
  cases c with
  | true => exact isTrue_and_nil e
  | false => exact e
theorem pw_or1 (ha : PT X a tA) : PW X (.BoolOp .Or [a] pos) tA := by
  intro wh pins s σ H Q I h
  refine isTrue_or (thn (ha pins s σ H Q I h) fun c s1 e => ?_)
  cases c with
  | false => exact isTrue_or_nil e
  | true => exact e
theorem pw_and (ha : PT X a tA) (hb : PW X (.BoolOp .And (b :: rest) pos) tB') : PW X (.BoolOp .And (a :: b :: rest) pos) (tAnd tA tB') := by
  intro wh pins s σ H Q I h
  refine isTrue_and (thn (ha pins s σ H _ I h) fun c s1 ⟨H1, I1, q1⟩ => ?_)
  cases c with
  | true => exact hb wh pins s1 σ H1 Q I1 q1
  | false => exact ⟨H1, I1, q1⟩
theorem pw_or (ha : PT X a tA) (hb : PW X (.BoolOp .Or (b :: rest) pos) tB') : PW X (.BoolOp .Or (a :: b :: rest) pos) (tOr tA tB') := by
  intro wh pins s σ H Q I h
  refine isTrue_or (thn (ha pins s σ H _ I h) fun c s1 ⟨H1, I1, q1⟩ => ?_)
  cases c with
  | true => exact ⟨H1, I1, q1⟩
  | false => exact hb wh pins s1 σ H1 Q I1 q1
theorem pt_not (ha : PT X a tA) : PT X (.UnaryOp .Not a pos) (tNot tA) := by
  intro pins s σ H Q I h
  exact isTrue_not (ha pins s σ H (fun c H1 => Q (!c) H1) I h)
def tAndV (ta tb : TE) : TE := fun σ H Q => ta σ H fun x H1 => ∃ c, x = .bl c ∧ if c = true then tb σ H1 Q else Q (.bl false) H1
def tNotV (ta : TE) : TE := fun σ H Q => ta σ H fun x H1 => ∃ c, x = .bl c ∧ Q (.bl (!c)) H1
theorem pe_one {op} {t : TE} (h : PE X a t) : PE X (.BoolOp op [a] pos) t := fun pins s σ H Q I hw => BoolOp_one (h pins s σ H Q I hw)
theorem pe_and (ha : PE X a ta) (hb : PE X (.BoolOp .And (b :: rest) pos) tb) : PE X (.BoolOp .And (a :: b :: rest) pos) (tAndV ta tb) := by
  intro pins s σ H Q I h
  refine BoolOp_and (thn (ha pins s σ H _ I h) fun v s1 ⟨x, H1, I1, r1, q1⟩ => ?_)
  obtain ⟨c, rfl, q1⟩ := q1
  cases r1
  refine wpAny_truthy_bool ?_
  cases c with
  | true => exact hb pins s1 σ H1 Q I1 q1
  | false => exact ⟨.bl false, H1, I1, rfl, q1⟩
theorem pe_not (ha : PE X a ta) : PE X (.UnaryOp .Not a pos) (tNotV ta) := by
  intro pins s σ H Q I h
  refine UnaryOp_ (thn (ha pins s σ H _ I h) fun v s1 ⟨x, H1, I1, r1, q1⟩ => ?_)
  obtain ⟨c, rfl, q1⟩ := q1
  cases r1
  exact not_of (wpAny_truthy_bool ⟨.bl (!c), H1, I1, rfl, q1⟩)
end
end L2
namespace L2
open PySem PySem.Spec PyProof.Rows
def SqL (K : PySem.W.Frag) (H : Hp) (a : Addr) (xs : List V) : Prop :=
  Rd H a (.lst xs) ∨
    ∃ (o : Obj) (its : Array Value) (n : Nat), K.lookup a = some o ∧ o.cls = .type "list" ∧ o.dict = none ∧ o.data = .seq its n ∧ its.size ≤ sizeLine ∧ Vals xs its.toList
def SqT (K : PySem.W.Frag) (H : Hp) (a : Addr) (xs : List V) : Prop :=
  Rd H a (.tup xs) ∨
    ∃ (o : Obj) (its : Array Value) (n : Nat), K.lookup a = some o ∧ o.cls = .type "tuple" ∧ o.data = .seq its n ∧ its.size ≤ sizeLine ∧ Vals xs its.toList
def absV : Value → Option V
  | .none => some .non
  | .bool b => some (.bl b)
  | .int i _ => some (.int i)
  | .str x _ => some (.str x)
  | .bytes b _ => some (.byt b)
  | .float b _ => some (.flt b)
  | .ref a => some (.ref a)
  | .type n => some (.ty n)
  | _ => none
theorem RelV.abs {x : V} {u : Value} (r : RelV x u) : absV u = some x := by
  cases x with
  | non => cases r; rfl
  | bl _ => cases r; rfl
  | int _ => obtain ⟨t, rfl⟩ := r; rfl
  | str _ => obtain ⟨t, rfl⟩ := r; rfl
  | byt _ => obtain ⟨t, rfl⟩ := r; rfl
  | flt _ => obtain ⟨t, rfl⟩ := r; rfl
  | ref _ => cases r; rfl
  | ty _ => cases r; rfl
theorem RelV.inj {x y : V} {u : Value} (r : RelV x u) (q : RelV y u) : x = y := Option.some.inj (r.abs.symm.trans q.abs)
theorem Vals.inj : ∀ {xs ys : List V} {us : List Value}, Vals xs us → Vals ys us → xs = ys
  | _, _, _, .nil, .nil => rfl
  | _, _, _, .cons r t, .cons r' t' => by rw [r.inj r', Vals.inj t t']
section
variable {X : Cx} {pins : List (Addr × Obj)} {σ : St} {H : Hp} {s : Shared} {a : Addr} {xs ys : List V}
theorem SqL.of {K : PySem.W.Frag} (h : H a = some (.lst xs)) : SqL K H a xs := .inl (.inl h)
theorem SqT.of {K : PySem.W.Frag} (h : H a = some (.tup xs)) : SqT K H a xs := .inl (.inl h)
theorem Inv.list (I : Inv X pins σ H s) (h : SqL X.K H a xs) : ∃ its : List Value, Vals xs its ∧ PlainL s.heap a its.toArray ∧ xs.length ≤ sizeLine := by
  rcases h with h | ⟨o, its, n, hk, hc, hd, hs, hz, r⟩
  · obtain ⟨z, its, n, r, e⟩ := h.ok I.hok
    exact ⟨its, r, ⟨_, n, e, rfl, rfl, rfl⟩, z⟩
  · refine ⟨its.toList, r, ⟨o, n, I.kIn a o hk, hc, hd, by simpa using hs⟩, ?_⟩
    have e := r.length
    simp only [Array.length_toList] at e
    omega
theorem Inv.tuple (I : Inv X pins σ H s) (h : SqT X.K H a xs) : ∃ its : List Value, Vals xs its ∧ IsTup s.heap a its.toArray ∧ xs.length ≤ sizeLine := by
  rcases h with h | ⟨o, its, n, hk, hc, hs, hz, r⟩
  · obtain ⟨z, its, r, p⟩ := h.ok I.hok
    exact ⟨its, r, p, z⟩
  · refine ⟨its.toList, r, ⟨o, I.kIn a o hk, hc, n, by simpa using hs⟩, ?_⟩
    have e := r.length
    simp only [Array.length_toList] at e
    omega
end
abbrev Cx.wish (X : Cx) (E : Value → Shared → Prop) : Cx := { X with xe := E }
abbrev Cx.nox (X : Cx) : Cx := X.wish fun _ _ => False
theorem Cx.Ok.wish {X : Cx} (ok : X.Ok) (E : Value → Shared → Prop) : (X.wish E).Ok :=
  ⟨ok.mod, ok.kind, ok.glob, ok.blt, ok.above, ok.inj, ok.has, ok.cab, ok.hd, ok.frames, ok.stk, ok.exf, ok.bs, ok.bsz, ok.noex, ok.exfs, ok.funs, ok.frf⟩
theorem Cx.Ok.unwish {X : Cx} {E : Value → Shared → Prop} (ok : (X.wish E).Ok) : X.Ok :=
  ⟨ok.mod, ok.kind, ok.glob, ok.blt, ok.above, ok.inj, ok.has, ok.cab, ok.hd, ok.frames, ok.stk, ok.exf, ok.bs, ok.bsz, ok.noex, ok.exfs, ok.funs, ok.frf⟩
section
variable {X : Cx} {pins : List (Addr × Obj)} {σ : St} {H : Hp} {s : Shared} {E : Value → Shared → Prop}
theorem Inv.wish (I : Inv X pins σ H s) (E : Value → Shared → Prop) : Inv (X.wish E) pins σ H s := ⟨I.ok.wish E, I.os, I.bare, I.base, I.loc, I.cell, I.free, I.freeC, I.pin, I.hok, I.len⟩
theorem Inv.unwish (I : Inv (X.wish E) pins σ H s) : Inv X pins σ H s := ⟨I.ok.unwish, I.os, I.bare, I.base, I.loc, I.cell, I.free, I.freeC, I.pin, I.hok, I.len⟩
theorem SP.unwish {D : Ends} {f : Flow} {s' : Shared} (h : SP (X.wish E) pins D f s') : SP X pins D f s' := by
  cases f with
  | next => obtain ⟨σ', H', I, q⟩ := h; exact ⟨σ', H', I.unwish, q⟩
  | brk => obtain ⟨σ', H', I, q⟩ := h; exact ⟨σ', H', I.unwish, q⟩
  | cont => obtain ⟨σ', H', I, q⟩ := h; exact ⟨σ', H', I.unwish, q⟩
  | ret u => obtain ⟨v, σ', H', I, r, q⟩ := h; exact ⟨v, σ', H', I.unwish, r, q⟩
theorem PE.nox {e : Expr} {t : TE} (h : PE X.nox e t) : PE X e t := fun pins s σ H Q I hw =>
  wpAny_mono (h pins s σ H Q (I.wish _) hw) (fun _ _ ⟨v, H', I', r, q⟩ => ⟨v, H', I'.unwish, r, q⟩) fun _ _ z => False.elim z
theorem PT.nox {e : Expr} {t : TT} (h : PT X.nox e t) : PT X e t := fun pins s σ H Q I hw =>
  wpAny_mono (h pins s σ H Q (I.wish _) hw) (fun _ _ ⟨H', I', q⟩ => ⟨H', I'.unwish, q⟩) fun _ _ z => False.elim z
theorem PSs.nox {st : List Stmt} {t : TS} (h : PSs X.nox st t) : PSs X st t := fun pins s σ H D I hw =>
  wpAny_mono (h pins s σ H D (I.wish _) hw) (fun _ _ q => q.unwish) fun _ _ z => False.elim z
end
section
variable {X : Cx} {st : Stmt} {rest : List Stmt} {t u : TS} {e : Expr} {te : TE} {pos : Pos}
def tNext : TS := fun D σ H => D.nx σ H
def tSeq (t u : TS) : TS := fun D σ H => t { D with nx := u D } σ H
theorem pss_nil : PSs X [] tNext := fun _ _ σ H _ I h => wpAny_execs_nil ⟨σ, H, I, h⟩
theorem pss_cons (h1 : PS X st t) (h2 : PSs X rest u) : PSs X (st :: rest) (tSeq t u) := by
  intro pins s σ H D I h
  refine wpAny_execs_cons (thn (h1 pins s σ H { D with nx := u D } I h) fun f s1 q => ?_)
  cases f with
  | next =>
    obtain ⟨σ', H', I', q⟩ := q
    exact h2 pins s1 σ' H' D I' q
  | ret v => exact q
  | brk => exact q
  | cont => exact q
theorem pss_one (h1 : PS X st t) : PSs X [st] t := by
  intro pins s σ H D I h
  refine wpAny_execs_cons (thn (h1 pins s σ H D I h) fun f s1 q => ?_)
  cases f with
  | next => exact wpAny_execs_nil q
  | ret v => exact q
  | brk => exact q
  | cont => exact q
theorem Inv.quiet {pins : List (Addr × Obj)} {σ : St} {H : Hp} {s : Shared} (I : Inv X pins σ H s) : interactive X.env = false := by simp [interactive, I.ok.kind]
def tDrop (te : TE) : TS := fun D σ H => te σ H fun _ H1 => D.nx σ H1
theorem ps_expr (he : PE X e te) (hs : swapsWith e none pos.line X.env = pure false := by rfl) : PS X (.Expr e pos) (tDrop te) := by
  intro pins s σ H D I h
  exact wpAny_Expr_any (thn (he pins s σ H _ I h) fun v s1 ⟨x, H1, I1, r1, q1⟩ => ⟨σ, H1, I1, q1⟩) I.quiet hs
def tRet (te : TE) : TS := fun D σ H => te σ H D.rt
theorem ps_ret (he : PE X e te) : PS X (.Return (some e) pos) (tRet te) := by
  intro pins s σ H D I h
  exact wpAny_Return_some (thn (he pins s σ H _ I h) fun v s1 ⟨x, H1, I1, r1, q1⟩ => ⟨x, σ, H1, I1, r1, q1⟩)
def tIfS (c : TT) (t u : TS) : TS := fun D σ H => c σ H fun b H1 => if b = true then t D σ H1 else u D σ H1
theorem ps_if {c : Expr} {a b : List Stmt} {tc : TT} (hc : PT X c tc) (ha : PSs X a t) (hb : PSs X b u) : PS X (.If c a b pos) (tIfS tc t u) := by
  intro pins s σ H D I h
  refine wpAny_If (thn (hc pins s σ H _ I h) fun d s1 ⟨H1, I1, q1⟩ => ?_)
  cases d with
  | true => exact ha pins s1 σ H1 D I1 q1
  | false => exact hb pins s1 σ H1 D I1 q1
def tNever : TS := fun _ _ _ => False
theorem ps_never : PS X st tNever := fun _ _ _ _ _ _ h => h.elim
end
abbrev TG := V → St → Hp → (St → Hp → Prop) → Prop
abbrev TGs := List V → St → Hp → (St → Hp → Prop) → Prop
def PG (X : Cx) (target : Expr) (t : TG) : Prop :=
  ∀ (pins : List (Addr × Obj)) (s : Shared) (σ : St) (H : Hp) (v : V) (u : Value) (Q : St → Hp → Prop), Inv X pins σ H s → RelV v u → t v σ H Q →
    wpAny (model X.prog X.w) X.A (assign target X.env u) (fun _ s' => ∃ σ' H', Inv X pins σ' H' s' ∧ Q σ' H') X.xe s
def PGs (X : Cx) (ts : List Expr) (t : TGs) : Prop :=
  ∀ (pins : List (Addr × Obj)) (s : Shared) (σ : St) (H : Hp) (vs : List V) (us : List Value) (Q : St → Hp → Prop), Inv X pins σ H s → Vals vs us → t vs σ H Q →
    wpAny (model X.prog X.w) X.A (assignInOrder ((assignEach ts X.env).map (·.2)) us) (fun _ s' => ∃ σ' H', Inv X pins σ' H' s' ∧ Q σ' H') X.xe s
section
variable {X : Cx} {pos : Pos}
def gName (i : Nat) : TG := fun v σ H Q => Q (σ.set i (some v)) H
theorem pg_name {i : Nat} {x : Str} (hN : X.N.Nodup) (hi : X.N[i]? = some x) (hx : Loc X.env.scope x) (hf : X.fn x = true ∨ X.env.scope.names.lookup x = some .local := by first | exact .inl rfl | exact .inr rfl | assumption) : PG X (.Name x pos) (gName i) := by
  intro pins s σ H v u Q I r h
  exact wpAny_assign_Name (store_ok I hN hi hx r (fun s' I' => ⟨_, H, I', h⟩) hf)
def tAsg (te : TE) (g : TG) : TS := fun D σ H => te σ H fun x H1 => g x σ H1 D.nx
theorem ps_set {i : Nat} {x : Str} {e : Expr} {te : TE} {pos' : Pos} (hN : X.N.Nodup) (hi : X.N[i]? = some x) (hx : Loc X.env.scope x) (he : PE X e te) (hs : swapsWith e (some (.Name x pos')) pos.line X.env = pure false := by rfl) (hf : X.fn x = true ∨ X.env.scope.names.lookup x = some .local := by first | exact .inl rfl | exact .inr rfl | assumption) :
    PS X (.Assign [.Name x pos'] e pos) (tAsg te (gName i)) := by
  intro pins s σ H D I h
  refine wpAny_Assign_Name (thn (he pins s σ H _ I h) fun v s1 ⟨y, H1, I1, r1, q1⟩ => ?_) hs
  exact store_ok I1 hN hi hx r1 (fun s2 I2 => ⟨_, H1, I2, q1⟩) hf
def tPar (i j : Nat) (ta : TA) : TS := fun D σ H => ta σ H fun vs H1 => ∃ v w, vs = [v, w] ∧ D.nx ((σ.set i (some v)).set j (some w)) H1
theorem ps_par {i j : Nat} {x y : Str} {a b : Expr} {ta : TA} {px py pt : Pos} {kt k2 pt2} (hc : X.calm = true) (hN : X.N.Nodup) (hi : X.N[i]? = some x) (hj : X.N[j]? = some y) (hij : i ≠ j)
    (hx : X.env.scope.names.lookup x = some .local) (hy : X.env.scope.names.lookup y = some .local) (ha : PA X [a, b] ta)
    (hw : swappedStores [.Tuple [.Name x px, .Name y py] kt pt] (.Tuple [a, b] k2 pt2) X.env = pure (some [x, y]))
    (hs : swapsWithSole [.Tuple [.Name x px, .Name y py] kt pt] (.Tuple [a, b] k2 pt2) pos.line X.env = pure false := by rfl) :
    PS X (.Assign [.Tuple [.Name x px, .Name y py] kt pt] (.Tuple [a, b] k2 pt2) pos) (tPar i j ta) := by
  intro pins s σ H D I h
  rw [exec_Assign_arm]
  refine wpAny_bind (wpAny_standAt ?_)
  rw [hs]
  refine wpAny_bind (wpAny_pure ?_)
  rw [if_neg (by decide)]
  refine wpAny_bind (Tuple_ (thn (ha _ pins s σ H _ I h) fun us s1 ⟨vs, H1, I1, r1, q1⟩ => ?_))
  obtain ⟨v, w, e1, q1⟩ := q1
  subst e1
  obtain ⟨u1, u2, rfl, rv, rw'⟩ : ∃ u1 u2, us = [u1, u2] ∧ RelV v u1 ∧ RelV w u2 := by
    cases r1 with
    | cons p q =>
      cases q with
      | cons p' q' =>
        cases q'
        exact ⟨_, _, rfl, p, p'⟩
  refine wpAny_newObj_type ?_ (by show 2 ≤ sizeLine; decide)
  have I2 : Inv X pins σ H1 { s1 with heap := s1.heap.push { cls := .type "tuple", data := .seq [u1, u2].toArray } } := I1.kept (t' := s1.toks) fun b o e => Heap.get?_push_of_some _ e
  rw [hw]
  refine wpAny_bind (wpAny_pure ?_)
  show wpAny (model X.prog X.w) X.A (do rule "assign.swapped-stores"; let items ← unpackItems (.ref s1.heap.objs.size) 2 none; assignInOrder [fun v => bindName X.env y v, fun v => bindName X.env x v] items.reverse; pure Flow.next) _ _ _
  refine wpAny_bind (wpAny_rule (wpAny_bind (unpackItems_tuple (items := #[u1, u2]) (I.ok.hd hc) (IsTup.new s1.heap _) fun h' hx' => ?_)))
  have I3 := I2.kept (h' := h') (t' := s1.toks) fun b o e => hx' b o (Nat.ne_of_lt (Heap.lt_size e)) e
  show wpAny _ _ (assignInOrder [fun v => bindName X.env y v, fun v => bindName X.env x v] [u2, u1] >>= fun _ => pure Flow.next) _ _ _
  refine wpAny_bind (assignInOrder_cons (wpAny_bindName (store_ok I3 hN hj (.inl hy) rw' (fun s2 I4 => ?_) (.inr hy))))
  refine assignInOrder_cons (wpAny_bindName (store_ok I4 hN hi (.inl hx) rv (fun s3 I5 => assignInOrder_nil (wpAny_pure ?_)) (.inr hx)))
  rw [List.set_comm _ _ (Ne.symm hij)] at I5
  exact ⟨_, H1, I5, q1⟩
end
section
variable {X : Cx} {pos : Pos}
def tWhile (c : TT) (tb : TS) : TS := fun D σ H => ∃ W : Nat → St → Hp → Prop, (∃ m, W m σ H) ∧ ∀ m σ H, W m σ H →
  c σ H fun b H1 => if b = true then ∃ N : St → Hp → Prop, (∀ σ' H', N σ' H' → ∃ m', m' < m ∧ W m' σ' H') ∧ tb { D with nx := N, ct := N, bk := D.nx } σ H1 else D.nx σ H1
theorem ps_while {c : Expr} {body : List Stmt} {tc : TT} {tb : TS} (hp : PassesOwn (model X.prog X.w) X.A X.env X.xe) (hc : PT X c tc) (hb : PSs X body tb) : PS X (.While c body [] pos) (tWhile tc tb) := by
  intro pins s σ H D I h
  obtain ⟨W, ⟨m0, w0⟩, turn⟩ := h
  refine wpAny_While (codeAny_whileLoop (fun n s' => ∃ σ' H', Inv X pins σ' H' s' ∧ W n σ' H') ?_ m0 ⟨σ, H, I, w0⟩)
  rintro n s1 ⟨σ1, H1, I1, w1⟩
  refine wpAny_passesOwn hp (thn (hc pins s1 σ1 H1 _ I1 (turn n σ1 H1 w1)) fun b s2 ⟨H2, I2, q2⟩ => ?_)
  cases b with
  | true =>
    obtain ⟨N, hN, q2⟩ := q2
    rw [if_pos rfl]
    refine wpAny_passesOwn hp (thn (hb pins s2 σ1 H2 _ I2 q2) fun f s3 q3 => ?_)
    cases f with
    | next =>
      obtain ⟨σ3, H3, I3, n3⟩ := q3
      obtain ⟨m', hm, w3⟩ := hN σ3 H3 n3
      exact ⟨m', hm, σ3, H3, I3, w3⟩
    | cont =>
      obtain ⟨σ3, H3, I3, n3⟩ := q3
      obtain ⟨m', hm, w3⟩ := hN σ3 H3 n3
      exact ⟨m', hm, σ3, H3, I3, w3⟩
    | brk => exact q3
    | ret v => exact q3
  | false =>
    rw [if_neg Bool.false_ne_true]
    exact wpAny_execs_nil ⟨σ1, H2, I2, q2⟩
end
structure It where
  go : Nat → Hp → Prop
  yld : Nat → Hp → V → Hp → Prop
  stop : Nat → Hp → Prop
def FpOk (X : Cx) (pins : List (Addr × Obj)) (H : Hp) (b : Addr) : Prop :=
  H b = none ∧ b ≠ X.env.locals ∧ b ∉ X.fs ∧ (b ∈ X.ex ∨ X.s₀.heap.objs.size ≤ b) ∧ (∀ x c, X.env.cells.lookup x = some c → c ≠ b) ∧ ∀ p ∈ X.pn ++ pins, p.1 ≠ b
theorem Inv.fpOk {X : Cx} {pins : List (Addr × Obj)} {σ : St} {H H' : Hp} {s : Shared} {b : Addr} (I : Inv X pins σ H s) (hb : s.heap.objs.size ≤ b) (hn : H' b = none) : FpOk X pins H' b := by
  refine ⟨hn, Nat.ne_of_gt (Nat.lt_of_lt_of_le I.lt hb), I.nofs hb, .inr (Nat.le_trans I.sz hb), fun x c e z => ?_, fun p hp z => ?_⟩
  · obtain ⟨v, q⟩ := I.cell x c e
    exact absurd (Nat.lt_of_lt_of_le q.lt (by rw [z]; exact hb)) (Nat.lt_irrefl _)
  · exact absurd (Nat.lt_of_lt_of_le (Heap.lt_size (I.pin p hp).1) (by rw [z]; exact hb)) (Nat.lt_irrefl _)
structure Turn (P : Program) (w : World) (K : PySem.W.Frag) (tg : Expr) (J : It) (fp : List Addr) (it : Addr) (tn : Nat → Heap → Prop) : Prop where
  mem : it ∈ fp
  obj : ∀ i h, tn i h → ∀ b ∈ fp, ∃ o, h.get? b = some o ∧ ∀ v, o.data ≠ .cell v
  keep : ∀ i h h', tn i h → (∀ b ∈ fp, ∀ o, h.get? b = some o → h'.get? b = some o) → tn i h'
  item : ∀ (X : Cx), X.prog = P → X.w = w → X.K = K → X.calm = true → ∀ (i : Nat) (pins : List (Addr × Obj)) (s : Shared) (σ : St) (H : Hp) (E : Value → Shared → Prop), Inv X pins σ H s → (∀ b ∈ fp, FpOk X pins H b) → tn i s.heap → J.go i H →
    wpAny (model P w) X.A (pyNext (.ref it)) (fun r s1 => ∃ u, r = some u ∧
      wpAny (model P w) X.A (letOwnedTupleGo tg (.ref it) u) (fun _ s2 => ∃ x H', Inv X pins σ H' s2 ∧ RelV x u ∧ J.yld i H x H' ∧ tn (i + 1) s2.heap ∧ ∀ b ∈ fp, H' b = none) E s1) E s
  done : ∀ (X : Cx), X.prog = P → X.w = w → X.K = K → X.calm = true → ∀ (i : Nat) (pins : List (Addr × Obj)) (s : Shared) (σ : St) (H : Hp) (E : Value → Shared → Prop), Inv X pins σ H s → (∀ b ∈ fp, FpOk X pins H b) → tn i s.heap → J.stop i H →
    wpAny (model P w) X.A (pyNext (.ref it)) (fun r s1 => r = none ∧ Inv X pins σ H s1) E s
  self : ∀ (A : Around) (i : Nat) (s : Shared) (Q : Value → Shared → Prop) (E : Value → Shared → Prop), tn i s.heap → Q (.ref it) s → wpAny (model P w) A (pyIter (.ref it)) Q E s
abbrev TI := St → Hp → (It → Hp → Prop) → Prop
def PIE (X : Cx) (pins : List (Addr × Obj)) (σ : St) (tg : Expr) (R : It → Hp → Prop) (itv : Value) (s2 : Shared) : Prop :=
  ∃ (it : Addr) (fp : List Addr) (tn : Nat → Heap → Prop) (J : It) (H' : Hp), itv = .ref it ∧ Inv X pins σ H' s2 ∧ Turn X.prog X.w X.K tg J fp it tn ∧ tn 0 s2.heap ∧ (∀ b ∈ fp, FpOk X pins H' b) ∧ R J H'
def PI (X : Cx) (tg iter : Expr) (wi : TI) : Prop :=
  ∀ (pins : List (Addr × Obj)) (s : Shared) (σ : St) (H : Hp) (R : It → Hp → Prop), Inv X pins σ H s → wi σ H R →
    wpAny (model X.prog X.w) X.A (eval iter X.env) (fun v s1 => wpAny (model X.prog X.w) X.A (pyIter v) (PIE X pins σ tg R) X.xe s1) X.xe s
theorem go_of {M : Model} {A : Around} {E : Value → Shared → Prop} {s : Shared} {tg : Expr} {it : Addr} {u : Value} {o : Obj} {n : String} {vs : Array Value} {Q : Unit → Shared → Prop} (ho : s.heap.get? it = some o) (hc : o.cls = .type n) (hd : o.data = .fields vs)
    (hn : ["enumerate", "zip", "dict_itemiterator", "dict_reverseitemiterator", "odict_iterator", "itertools.zip_longest", "itertools.pairwise"].contains n = false) (hQ : Q () s) : wpAny M A (letOwnedTupleGo tg (.ref it) u) Q E s := by
  unfold letOwnedTupleGo
  cases tg <;> first
    | exact wpAny_pure hQ
    | (cases u <;> first
        | exact wpAny_pure hQ
        | (refine wpAny_bind (wpAny_load ho ?_)
           rw [hc, hd]
           show wpAny M A (if (["enumerate", "zip", "dict_itemiterator", "dict_reverseitemiterator", "odict_iterator", "itertools.zip_longest", "itertools.pairwise"].contains n && vs[0]? == some (rawInt _)) = true then _ else _) Q E s
           rw [if_neg (by intro h; rw [hn, Bool.false_and] at h; cases h)]
           exact wpAny_pure hQ))
def Itr (lo : Int) (n : Nat) : It := ⟨fun i _ => i < n, fun i H x H' => H' = H ∧ x = .int (lo + i), fun i _ => n ≤ i⟩
theorem turn_range {P : Program} {w : World} {K : PySem.W.Frag} {tg : Expr} (it : Addr) (lo : Int) (n : Nat) : Turn P w K tg (Itr lo n) [it] it (fun i h => IsRangeIter h it (lo + (i : Nat) * 1) ((n : Int) - (i : Nat)) 1) where
  mem := by simp
  obj := fun i h st b hb => by
    have e : b = it := by simpa using hb
    subst e
    exact ⟨_, st, fun v z => by
      have z' : Data.fields _ = Data.cell v := z
      cases z'⟩
  keep := fun i h h' st k => k it (by simp) _ st
  item := by
    intro X hP hw hK hc i pins s σ H E I hf st hg
    subst hP hw hK
    obtain ⟨f0, f1, f2, f3, f4, f5⟩ := hf it (by simp)
    have W := Walks.range (prog := X.prog) (w := X.w) (I.ok.hd hc) it lo 1 n
    refine W.item i s _ _ hg st fun v h' tk hv st' kk => ?_
    obtain ⟨t, rfl⟩ := hv
    have I1 : Inv X pins σ H { s with heap := h', toks := tk } := I.turned (fun b o hb e => kk b o (by simpa using hb) e) f0 f1 f3 f4 f5
    refine ⟨_, rfl, go_of (s := { s with heap := h', toks := tk }) (n := "range_iterator") st' rfl rfl (by decide) ⟨.int (lo + i), H, I1, ⟨t, ?_⟩, ⟨rfl, rfl⟩, st', fun b hb => (hf b hb).1⟩⟩
    rw [Int.mul_one]
  done := by
    intro X hP hw hK hc i pins s σ H E I hf st hg
    subst hP hw hK
    obtain ⟨f0, f1, f2, f3, f4, f5⟩ := hf it (by simp)
    exact wpAny_pyNext_range_end (I.ok.hd hc) st (by have : n ≤ i := hg; omega) fun h' eb => ⟨rfl, I.turned (t' := s.toks) (fun b o hb e => eb b o hb e) f0 f1 f3 f4 f5⟩
  self := fun _ _ _ _ _ st h => wpAny_pyIter_rangeiter st h
end L2
namespace L2
open PySem PySem.Spec PyProof.Rows
section
variable {X : Cx} {tg : Expr}
theorem range_it {pins : List (Addr × Obj)} {σ : St} {H : Hp} {s : Shared} {R : It → Hp → Prop} {E : Value → Shared → Prop} {lo hi : Int} {t u v : Tok} {tk : Nat} (I : Inv X pins σ H s) (h1 : -(2 ^ 62) ≤ lo) (h2 : lo < 2 ^ 62) (h3 : -(2 ^ 62) ≤ hi) (h4 : hi < 2 ^ 62)
    (q : R (Itr lo (hi - lo).toNat) H) : wpAny (model X.prog X.w) X.A (pyIter (.ref s.heap.objs.size)) (PIE X pins σ tg R) E { s with heap := s.heap.push { cls := .type "range", data := .fields #[.int lo t, .int hi u, .int 1 v] }, toks := tk } := by
  refine wpAny_pyIter_range (IsRange.new ..) (small_one h1 h2 h3 h4) ?_
  have I1 : Inv X pins σ H { s with heap := s.heap.push { cls := .type "range", data := .fields #[.int lo t, .int hi u, .int 1 v] }, toks := tk } := I.kept fun b o e => Heap.get?_push_of_some _ e
  refine ⟨(s.heap.push { cls := .type "range", data := .fields #[.int lo t, .int hi u, .int 1 v] }).objs.size, [(s.heap.push { cls := .type "range", data := .fields #[.int lo t, .int hi u, .int 1 v] }).objs.size], _, _, H, rfl,
    I1.kept (t' := tk) fun b o e => Heap.get?_push_of_some _ e, turn_range _ lo (hi - lo).toNat, ?_, fun b hb => ?_, q⟩
  · have e1 : lo + ((0 : Nat) : Int) * 1 = lo := by simp
    have e2 : (((hi - lo).toNat : Nat) : Int) - ((0 : Nat) : Int) = Builtin.Range.rangeSize lo hi 1 := by rw [rangeSize_one]; split <;> omega
    show IsRangeIter _ _ (lo + ((0 : Nat) : Int) * 1) ((((hi - lo).toNat : Nat) : Int) - ((0 : Nat) : Int)) 1
    rw [e1, e2]
    exact Heap.get?_push_size _ rfl
  · have e : b = (s.heap.push { cls := .type "range", data := .fields #[.int lo t, .int hi u, .int 1 v] }).objs.size := by simpa using hb
    subst e
    exact I1.fpOk (Nat.le_refl _) (I1.hok.fresh (Nat.le_refl _))
def iRng1 (ta : TA) : TI := fun σ H R => ta σ H fun vs H1 => ∃ j : Int, vs = [.int j] ∧ -(2 ^ 62) ≤ j ∧ j < 2 ^ 62 ∧ R (Itr 0 j.toNat) H1
theorem pi_range1 {a : Expr} {ta : TA} {p pos : Pos} (hg : Gl X "range") (hm : X.mg "range" = none) (ha : PA X [a] ta) (hs : starEach [a] X.env = [(false, eval a X.env)] := by rfl) : PI X tg (.Call (.Name "range" p) [a] [] pos) (iRng1 ta) := by
  intro pins s σ H R I h
  refine Call_ (ld_blt I hg hm boot_range (PyProof.Rows.callWith_type1 (thn (ha pos pins s σ H _ I h) fun us s1 ⟨vs, H1, I1, r1, q1⟩ => ?_) hs rfl))
  obtain ⟨j, e, q1, q2, q⟩ := q1
  subst e
  cases r1 with
  | cons r rr =>
    cases rr
    obtain ⟨t, rfl⟩ := r
    exact call_range_1 (range_it I1 (by omega) (by omega) q1 q2 (by simpa using q))
def tFor (wi : TI) (g : TG) (tb : TS) : TS := fun D σ H => wi σ H fun J H1 => ∃ W : Nat → Nat → St → Hp → Prop, (∃ m, W 0 m σ H1) ∧ ∀ i m σ H, W i m σ H →
  (J.stop i H ∧ D.nx σ H) ∨ (J.go i H ∧ ∃ N : St → Hp → Prop, (∀ σ' H', N σ' H' → ∃ m', m' < m ∧ W (i + 1) m' σ' H') ∧ ∀ x H', J.yld i H x H' → g x σ H' fun σ2 H2 => tb { D with nx := N, ct := N, bk := D.nx } σ2 H2)
def pinsAt (fp : List Addr) (h : Heap) : List (Addr × Obj) := fp.filterMap fun b => (h.get? b).map fun o => (b, o)
theorem mem_pinsAt {fp : List Addr} {h : Heap} {b : Addr} {o : Obj} (hb : b ∈ fp) (e : h.get? b = some o) : (b, o) ∈ pinsAt fp h := List.mem_filterMap.mpr ⟨b, hb, by rw [e]; rfl⟩
theorem of_pinsAt {fp : List Addr} {h : Heap} {p : Addr × Obj} (hp : p ∈ pinsAt fp h) : p.1 ∈ fp ∧ h.get? p.1 = some p.2 := by
  obtain ⟨b, hb, e⟩ := List.mem_filterMap.mp hp
  cases q : h.get? b with
  | none => rw [q] at e; cases e
  | some o =>
    rw [q] at e
    have e' : (b, o) = p := Option.some.inj e
    subst e'
    exact ⟨hb, q⟩
theorem Inv.pinned {pins : List (Addr × Obj)} {σ : St} {H : Hp} {s : Shared} {fp : List Addr} (I : Inv X pins σ H s) (hf : ∀ b ∈ fp, FpOk X pins H b) (ho : ∀ b ∈ fp, ∃ o, s.heap.get? b = some o ∧ ∀ v, o.data ≠ .cell v) : Inv X (pins ++ pinsAt fp s.heap) σ H s :=
  I.pins_of fun p hp => (List.mem_append.mp hp).elim (fun z => I.pin p (List.mem_append_right _ z)) fun z => by
    obtain ⟨hb, e⟩ := of_pinsAt z
    obtain ⟨f0, f1, f2, _⟩ := hf p.1 hb
    obtain ⟨o, e', d⟩ := ho p.1 hb
    rw [e] at e'; cases e'
    exact ⟨e, f0, f1, f2, d⟩
theorem Inv.unpinned {pins pl : List (Addr × Obj)} {σ : St} {H : Hp} {s : Shared} (I : Inv X (pins ++ pl) σ H s) : Inv X pins σ H s := I.pins_of fun p hp => I.pin p (List.mem_append_right _ (List.mem_append_left _ hp))
theorem ps_for {iter : Expr} {body : List Stmt} {wi : TI} {g : TG} {tb : TS} {pos : Pos} (hp : PassesOwn (model X.prog X.w) X.A X.env X.xe) (hc : X.calm = true) (hi : PI X tg iter wi) (hg : PG X tg g) (hb : PSs X body tb)
    (hs : ∀ x, foldedSetIterable iter X.env x = pure x := by intro _; rfl) : PS X (.For tg iter body [] pos) (tFor wi g tb) := by
  intro pins s σ H D I h
  refine wpAny_For (thn (hi pins s σ H _ I h) fun v s1 h1 => thn h1 fun itv s2 h2 => ?_) hs
  obtain ⟨it, fp, tn, J, H2, e, I2, T, st2, f2, W, ⟨m0, w0⟩, turn⟩ := h2
  subst e
  have stat : ∀ {H' : Hp}, (∀ b ∈ fp, H' b = none) → ∀ b ∈ fp, FpOk X pins H' b := fun hn b hb => ⟨hn b hb, (f2 b hb).2⟩
  refine codeAny_forLoop_any (fun n s' => ∃ i σ' H', Inv X pins σ' H' s' ∧ tn i s'.heap ∧ (∀ b ∈ fp, H' b = none) ∧ W i n σ' H') ?_ m0 ⟨0, σ, H2, I2, st2, fun b hb => (f2 b hb).1, w0⟩
  rintro n s3 ⟨i, σ3, H3, I3, st3, fr3, w3⟩
  rcases turn i n σ3 H3 w3 with ⟨stop, qn⟩ | ⟨go, N, hN, step⟩
  · refine wpAny_passesOwn hp (thn (T.done X rfl rfl rfl hc i pins s3 σ3 H3 X.xe I3 (stat fr3) st3 stop) fun r s4 ⟨hr, I4⟩ => ?_)
    subst hr
    exact wpAny_execs_nil ⟨σ3, H3, I4, qn⟩
  · refine wpAny_passesOwn hp (thn (T.item X rfl rfl rfl hc i pins s3 σ3 H3 X.xe I3 (stat fr3) st3 go) fun r s4 ⟨u, hr, h4⟩ => ?_)
    subst hr
    refine wpAny_passesOwn hp (thn h4 fun _ s5 ⟨x, H5, I5, r5, y5, st5, fr5⟩ => ?_)
    have I5' := I5.pinned (stat fr5) (T.obj _ _ st5)
    refine wpAny_passesOwn hp (thn (hg _ s5 σ3 H5 x u _ I5' r5 (step x H5 y5)) fun _ s6 ⟨σ6, H6, I6, q6⟩ => ?_)
    refine wpAny_passesOwn hp (thn (hb _ s6 σ6 H6 _ I6 q6) fun f s7 q7 => ?_)
    have again : ∀ {σ7 : St} {H7 : Hp}, Inv X (pins ++ pinsAt fp s5.heap) σ7 H7 s7 → N σ7 H7 → ∃ m, m < n ∧ ∃ i σ' H', Inv X pins σ' H' s7 ∧ tn i s7.heap ∧ (∀ b ∈ fp, H' b = none) ∧ W i m σ' H' := fun {σ7 H7} I7 n7 => by
      obtain ⟨m', hm, w7⟩ := hN σ7 H7 n7
      refine ⟨m', hm, i + 1, σ7, H7, I7.unpinned, T.keep _ _ _ st5 fun b hb o e => (I7.pin (b, o) (List.mem_append_right _ (List.mem_append_right _ (mem_pinsAt hb e)))).1, fun b hb => ?_, w7⟩
      obtain ⟨o, e, d⟩ := T.obj _ _ st5 b hb
      exact (I7.pin (b, o) (List.mem_append_right _ (List.mem_append_right _ (mem_pinsAt hb e)))).2.1
    cases f with
    | next => obtain ⟨σ7, H7, I7, n7⟩ := q7; exact again I7 n7
    | cont => obtain ⟨σ7, H7, I7, n7⟩ := q7; exact again I7 n7
    | brk => obtain ⟨σ7, H7, I7, q7⟩ := q7; exact ⟨σ7, H7, I7.unpinned, q7⟩
    | ret v => obtain ⟨x7, σ7, H7, I7, r7, q7⟩ := q7; exact ⟨x7, σ7, H7, I7.unpinned, r7, q7⟩
end
end L2
namespace L2
open PySem PySem.Spec PyProof.Rows
abbrev R2 := V → V → Hp → VK → Prop
def OpR (X : Cx) (f : Value → Value → Sem Value) (r : R2) : Prop :=
  ∀ (pins : List (Addr × Obj)) (s : Shared) (σ : St) (H : Hp) (x y : V) (v u : Value) (Q : VK), Inv X pins σ H s → RelV x v → RelV y u → r x y H Q →
    wpAny (model X.prog X.w) X.A (f v u) (EP X pins σ Q) X.xe s
def UnR (X : Cx) (f : Value → Sem Value) (r : V → Hp → VK → Prop) : Prop :=
  ∀ (pins : List (Addr × Obj)) (s : Shared) (σ : St) (H : Hp) (x : V) (v : Value) (Q : VK), Inv X pins σ H s → RelV x v → r x H Q →
    wpAny (model X.prog X.w) X.A (f v) (EP X pins σ Q) X.xe s
def CallR (X : Cx) (f : Value) (r : List V → Hp → VK → Prop) : Prop :=
  ∀ (pins : List (Addr × Obj)) (s : Shared) (σ : St) (H : Hp) (xs : List V) (us : List Value) (Q : VK), Inv X pins σ H s → Vals xs us → r xs H Q →
    wpAny (model X.prog X.w) X.A (call f us) (EP X pins σ Q) X.xe s
def TruR (X : Cx) (r : V → Hp → (Bool → Hp → Prop) → Prop) : Prop :=
  ∀ (pins : List (Addr × Obj)) (s : Shared) (σ : St) (H : Hp) (x : V) (v : Value) (Q : Bool → Hp → Prop), Inv X pins σ H s → RelV x v → r x H Q →
    wpAny (model X.prog X.w) X.A (truthy v) (TP X pins σ Q) X.xe s
def tOp (r : R2) (ta tb : TE) : TE := fun σ H Q => ta σ H fun x H1 => tb σ H1 fun y H2 => r x y H2 Q
def tUn (r : V → Hp → VK → Prop) (ta : TE) : TE := fun σ H Q => ta σ H fun x H1 => r x H1 Q
def rI (C : Int → Int → Prop) (g : Int → Int → V) : R2 := fun x y H Q => ∃ i j, x = .int i ∧ y = .int j ∧ C i j ∧ Q (g i j) H
def rI0 (g : Int → Int → V) : R2 := fun x y H Q => ∃ i j, x = .int i ∧ y = .int j ∧ Q (g i j) H
def rU (g : Int → V) : V → Hp → VK → Prop := fun x H Q => ∃ i, x = .int i ∧ Q (g i) H
section
variable {X : Cx} {a b c : Expr} {ta tb tc : TE} {pos : Pos}
theorem binT (ha : PE X a ta) (hb : PE X b tb) {pins : List (Addr × Obj)} {s : Shared} {σ : St} {H : Hp} {R : V → V → Hp → Prop} (I : Inv X pins σ H s)
    (h : ta σ H fun x H1 => tb σ H1 fun y H2 => R x y H2) {Q : Value → Shared → Prop} {f : Value → Value → Sem Value}
    (hf : ∀ v u s2 x y H2, Inv X pins σ H2 s2 → RelV x v → RelV y u → R x y H2 → wpAny (model X.prog X.w) X.A (f v u) Q X.xe s2) :
    wpAny (model X.prog X.w) X.A (eval a X.env) (fun v s₁ => wpAny (model X.prog X.w) X.A (eval b X.env) (fun u s₂ => wpAny (model X.prog X.w) X.A (f v u) Q X.xe s₂) X.xe s₁) X.xe s := by
  refine thn (ha pins s σ H _ I h) fun v s1 ⟨x, H1, I1, r1, q1⟩ => ?_
  refine thn (hb pins s1 σ H1 _ I1 q1) fun u s2 ⟨y, H2, I2, r2, q2⟩ => ?_
  exact hf v u s2 x y H2 I2 r1 r2 q2
theorem pe_op {op : Operator} {r : R2} (ho : OpR X (binaryOp op) r) (ha : PE X a ta) (hb : PE X b tb) : PE X (.BinOp a op b pos) (tOp r ta tb) := by
  intro pins s σ H Q I h
  exact wpAny_BinOp (binT ha hb I h fun v u s2 x y H2 I2 rx ry q => ho pins s2 σ H2 x y v u Q I2 rx ry q)
theorem pe_un {op : UnaryOp} {r : V → Hp → VK → Prop} (ho : UnR X (unaryOp op) r) (ha : PE X a ta) : PE X (.UnaryOp op a pos) (tUn r ta) := by
  intro pins s σ H Q I h
  exact UnaryOp_ (thn (ha pins s σ H _ I h) fun v s1 ⟨x, H1, I1, r1, q1⟩ => ho pins s1 σ H1 x v Q I1 r1 q1)
theorem opI {f : Value → Value → Sem Value} {C : Int → Int → Prop} {g : Int → Int → Int}
    (rule : ∀ (i j : Int) (t u : Tok) (s : Shared) (Q : Value → Shared → Prop) (E : Value → Shared → Prop), C i j → Q (.int (g i j) s.toks) { s with toks := s.toks + 1 } → wpAny (model X.prog X.w) X.A (f (.int i t) (.int j u)) Q E s) :
    OpR X f (rI C fun i j => .int (g i j)) := by
  intro pins s σ H x y v u Q I rx ry h
  obtain ⟨i, j, rfl, rfl, hc, q⟩ := h
  obtain ⟨t, rfl⟩ := rx
  obtain ⟨t', rfl⟩ := ry
  exact rule i j t t' s _ _ hc ⟨.int (g i j), H, I.tok _, ⟨_, rfl⟩, q⟩
theorem opI0 {f : Value → Value → Sem Value} {g : Int → Int → Int}
    (rule : ∀ (i j : Int) (t u : Tok) (s : Shared) (Q : Value → Shared → Prop) (E : Value → Shared → Prop), Q (.int (g i j) s.toks) { s with toks := s.toks + 1 } → wpAny (model X.prog X.w) X.A (f (.int i t) (.int j u)) Q E s) :
    OpR X f (rI0 fun i j => .int (g i j)) := by
  intro pins s σ H x y v u Q I rx ry h
  obtain ⟨i, j, rfl, rfl, q⟩ := h
  obtain ⟨t, rfl⟩ := rx
  obtain ⟨t', rfl⟩ := ry
  exact rule i j t t' s _ _ ⟨.int (g i j), H, I.tok _, ⟨_, rfl⟩, q⟩
theorem opB0 {f : Value → Value → Sem Value} {g : Int → Int → Bool}
    (rule : ∀ (i j : Int) (t u : Tok) (s : Shared) (Q : Value → Shared → Prop) (E : Value → Shared → Prop), Q (.bool (g i j)) s → wpAny (model X.prog X.w) X.A (f (.int i t) (.int j u)) Q E s) :
    OpR X f (rI0 fun i j => .bl (g i j)) := by
  intro pins s σ H x y v u Q I rx ry h
  obtain ⟨i, j, rfl, rfl, q⟩ := h
  obtain ⟨t, rfl⟩ := rx
  obtain ⟨t', rfl⟩ := ry
  exact rule i j t t' s _ _ ⟨.bl (g i j), H, I, rfl, q⟩
def CPow (i j : Int) : Prop := 0 ≤ j ∧ j ≤ 1000000 ∧ i.natAbs < 2 ^ 64
def CMul (i j : Int) : Prop := (-(2 ^ 64) < i ∧ i < 2 ^ 64) ∨ (-(2 ^ 64) < j ∧ j < 2 ^ 64)
theorem CMul.ok {i j : Int} (h : CMul i j) : IntMulOk i j := by
  rcases h with ⟨h1, h2⟩ | ⟨h1, h2⟩
  · exact .of_left (intBits_le_64 h1 h2)
  · exact .of_right (intBits_le_64 h1 h2)
theorem two_pow_nn (k : Nat) : (0 : Int) ≤ 2 ^ k := by
  rw [two_pow_cast]
  exact Int.natCast_nonneg _
theorem op_add : OpR X (binaryOp .Add) (rI0 fun i j => .int (i + j)) := opI0 fun _ _ _ _ _ _ _ q => add_int q
theorem op_sub : OpR X (binaryOp .Sub) (rI0 fun i j => .int (i - j)) := opI0 fun _ _ _ _ _ _ _ q => sub_int q
theorem op_modN : OpR X (binaryOp .Mod) (rI (fun _ j => j ≠ 0) fun i j => .int (i.fmod j)) := opI fun _ _ _ _ _ _ _ hc q => mod_int' hc q
theorem op_pow : OpR X (binaryOp .Pow) (rI CPow fun i j => .int (i ^ j.toNat)) := opI fun _ _ _ _ _ _ _ hc q => pow_int_small hc.1 hc.2.1 hc.2.2 q
theorem op_shr : OpR X (binaryOp .RShift) (rI (fun _ j => 0 ≤ j) fun i j => .int (i / 2 ^ j.toNat)) := opI fun i j _ _ _ _ _ hc q =>
  rshift_int hc (by rw [Int.fdiv_eq_ediv_of_nonneg i (two_pow_nn _)]; exact q)
theorem unI {f : Value → Sem Value} {g : Int → Int}
    (rule : ∀ (i : Int) (t : Tok) (s : Shared) (Q : Value → Shared → Prop) (E : Value → Shared → Prop), Q (.int (g i) s.toks) { s with toks := s.toks + 1 } → wpAny (model X.prog X.w) X.A (f (.int i t)) Q E s) :
    UnR X f (rU fun i => .int (g i)) := by
  intro pins s σ H x v Q I rx h
  obtain ⟨i, rfl, q⟩ := h
  obtain ⟨t, rfl⟩ := rx
  exact rule i t s _ _ ⟨.int (g i), H, I.tok _, ⟨_, rfl⟩, q⟩
theorem un_neg : UnR X (unaryOp .USub) (rU fun i => .int (-i)) := unI fun _ _ _ _ _ q => neg_int q
end
section
variable {X : Cx} {a b c : Expr} {ta tb tc : TE} {pos : Pos}
theorem op_lt : OpR X (compareOp .Lt) (rI0 fun i j => .bl (decide (i < j))) := opB0 fun _ _ _ _ _ _ _ q => lt_int q
theorem op_gt : OpR X (compareOp .Gt) (rI0 fun i j => .bl (decide (j < i))) := opB0 fun _ _ _ _ _ _ _ q => gt_int q
theorem OpR.or {f : Value → Value → Sem Value} {r r' : R2} (h : OpR X f r) (h' : OpR X f r') : OpR X f (fun x y H Q => r x y H Q ∨ r' x y H Q) := by
  intro pins s σ H x y v u Q I rx ry q
  rcases q with q | q
  · exact h pins s σ H x y v u Q I rx ry q
  · exact h' pins s σ H x y v u Q I rx ry q
theorem nomark (b : Expr) {op : CmpOp} (h : op ≠ .In := by decide) (h2 : op ≠ .NotIn := by decide) : behindInMarks op b = false := by
  have e1 : (op == CmpOp.In) = false := by cases op <;> first | rfl | exact absurd rfl h
  have e2 : (op == CmpOp.NotIn) = false := by cases op <;> first | rfl | exact absurd rfl h2
  cases b <;> simp [behindInMarks, e1, e2]
theorem pe_cmpR {op : CmpOp} {r : R2} (ho : OpR X (compareOp op) r) (ha : PE X a ta) (hb : PE X b tb) (hm : behindInMarks op b = false) : PE X (.Compare a [op] [b] pos) (tOp r ta tb) := by
  intro pins s σ H Q I h
  exact wpAny_Compare1 (binT ha hb I h fun v u s2 x y H2 I2 rx ry q => ho pins s2 σ H2 x y v u Q I2 rx ry q) hm
def tTest (t : TE) : TT := fun σ H Q => t σ H fun x H' => ∃ k, x = .bl k ∧ Q k H'
theorem pt_cmpR {op : CmpOp} {r : R2} (ho : OpR X (compareOp op) r) (ha : PE X a ta) (hb : PE X b tb) (hm : behindInMarks op b = false) : PT X (.Compare a [op] [b] pos) (tTest (tOp r ta tb)) := by
  intro pins s σ H Q I h
  refine wpAny_isTrue_Compare1 (thn (ha pins s σ H _ I h) fun v s1 ⟨x, H1, I1, r1, q1⟩ => thn (hb pins s1 σ H1 _ I1 q1) fun u s2 ⟨y, H2, I2, r2, q2⟩ =>
    thn (ho pins s2 σ H2 x y v u _ I2 r1 r2 q2) fun c s3 ⟨z, H3, I3, r3, k, e, q3⟩ => ?_) hm
  subst e
  cases r3
  exact wpAny_truthy_bool ⟨H3, I3, q3⟩
def TruV (K : PySem.W.Frag) (x : V) (H : Hp) (k : Bool) : Prop :=
  match x with
  | .non => k = false
  | .bl b => k = b
  | .int i => k = (i != 0)
  | .str y => y.length ≤ sizeLine ∧ k = ((y.length : Int) != 0)
  | .byt y => y.size ≤ sizeLine ∧ k = ((y.size : Int) != 0)
  | .ref p => (∃ xs, SqL K H p xs ∧ k = !xs.isEmpty) ∨ (∃ xs, SqT K H p xs ∧ k = !xs.isEmpty) ∨ ∃ kvs, H p = some (.dK kvs) ∧ k = !kvs.isEmpty
  | _ => False
theorem isEmpty_kv {κ : Type} {kvs : List (κ × V)} {vs : List (κ × Value)} (r : KV kvs vs) : (!vs.isEmpty) = !kvs.isEmpty := by
  cases r <;> rfl
theorem isEmpty_of {xs : List V} {its : List Value} (r : Vals xs its) : (!its.toArray.isEmpty) = !xs.isEmpty := by
  cases r <;> simp
theorem line63 : (sizeLine : Nat) < 2 ^ 63 := by rw [sizeLine_eq]; decide
theorem tru_ok : TruR X (fun x H Q => ∃ k, TruV X.K x H k ∧ Q k H) := by
  intro pins s σ H x v Q I rx h
  obtain ⟨k, e, q⟩ := h
  have hl := line63
  have hs : sizeLine = 16777216 := sizeLine_eq
  cases x with
  | non =>
    cases rx
    have e' : k = false := e
    subst e'
    exact truthy_none ⟨H, I, q⟩
  | bl b =>
    cases rx
    have e' : k = b := e
    subst e'
    exact wpAny_truthy_bool ⟨H, I, q⟩
  | int i =>
    obtain ⟨t, rfl⟩ := rx
    have e' : k = (i != 0) := e
    subst e'
    exact PySem.P.truthy_int ⟨H, I, q⟩
  | str y =>
    obtain ⟨t, rfl⟩ := rx
    obtain ⟨hy, e'⟩ : y.length ≤ sizeLine ∧ k = ((y.length : Int) != 0) := e
    subst e'
    exact PySem.P.truthy_str (by omega) ⟨H, I.tok _, q⟩
  | byt y =>
    obtain ⟨t, rfl⟩ := rx
    obtain ⟨hy, e'⟩ : y.size ≤ sizeLine ∧ k = ((y.size : Int) != 0) := e
    subst e'
    exact PySem.W.truthy_bytes (by omega) ⟨H, I.tok _, q⟩
  | ref p =>
    cases rx
    have e' : (∃ xs, SqL X.K H p xs ∧ k = !xs.isEmpty) ∨ (∃ xs, SqT X.K H p xs ∧ k = !xs.isEmpty) ∨ ∃ kvs, H p = some (.dK kvs) ∧ k = !kvs.isEmpty := e
    rcases e' with ⟨xs, hx, e'⟩ | ⟨xs, hx, e'⟩ | ⟨kvs, hx, e'⟩
    · subst e'
      obtain ⟨its, r, pl, hz⟩ := I.list hx
      have hlen := r.length
      exact wpAny_truthy_list pl.isList (by simp only [List.size_toArray]; omega) ⟨H, I.tok _, by rw [isEmpty_of r]; exact q⟩
    · subst e'
      obtain ⟨its, r, pl, hz⟩ := I.tuple hx
      have hlen := r.length
      exact truthy_tuple pl (by simp only [List.size_toArray]; omega) ⟨H, I.tok _, by rw [isEmpty_of r]; exact q⟩
    · subst e'
      obtain ⟨hz, hS, vs, r, m⟩ : kvs.length ≤ sizeLine ∧ (p == sysModules) = false ∧ ∃ vs, KV kvs vs ∧ s.heap.DictOf (mixKind X.prog X.w) p vs := I.hok p _ hx
      have hlen : kvs.length = vs.length := Paired.length r
      exact wpAny_truthy_dict hS m (by omega) ⟨H, I.tok _, by rw [isEmpty_kv r]; exact q⟩
  | _ => exact (show False from e).elim
theorem pt_truth (ha : PE X a ta) (he : ∀ whole, isTrue a X.env whole = (do let v ← whole; standAt a.pos; holding [v] (truthy v))) :
    PT X a (fun σ H Q => ta σ H fun x H' => ∃ k, TruV X.K x H' k ∧ Q k H') := by
  intro pins s σ H Q I h
  exact isTrue_plain (thn (ha pins s σ H _ I h) fun v s1 ⟨x, H1, I1, r1, q1⟩ => tru_ok pins s1 σ H1 x v Q I1 r1 q1) (he _)
theorem op_add_str : OpR X (binaryOp .Add) (fun x y H Q => ∃ i j, x = .str i ∧ y = .str j ∧ i.length + j.length ≤ sizeLine ∧ Q (.str (i ++ j)) H) := by
  intro pins s σ H x y v u Q I rx ry h
  obtain ⟨i, j, rfl, rfl, hz, q⟩ := h
  obtain ⟨t, rfl⟩ := rx
  obtain ⟨t', rfl⟩ := ry
  exact add_str (fun t' tk => ⟨.str (i ++ j), H, I.tok _, ⟨_, rfl⟩, q⟩) hz
theorem vals1 {x : V} {us : List Value} (r : Vals [x] us) : ∃ u, us = [u] ∧ RelV x u := by
  cases r with
  | cons r1 r2 => cases r2; exact ⟨_, rfl, r1⟩
theorem vals2 {x y : V} {us : List Value} (r : Vals [x, y] us) : ∃ u w', us = [u, w'] ∧ RelV x u ∧ RelV y w' := by
  cases r with
  | cons r1 r2 =>
    cases r2 with
    | cons r3 r4 => cases r4; exact ⟨_, _, rfl, r1, r3⟩
theorem call_abs : CallR X (.builtin "abs") (fun xs H Q => ∃ i, xs = [.int i] ∧ Q (.int (if i < 0 then -i else i)) H) := by
  intro pins s σ H xs us Q I r h
  obtain ⟨i, rfl, q⟩ := h
  obtain ⟨u, rfl, t, rfl⟩ := vals1 r
  exact call_abs_int fun u tk => ⟨.int (if i < 0 then -i else i), H, I.tok _, ⟨_, rfl⟩, q⟩
theorem call_max2 (hc : X.calm = true) : CallR X (.builtin "max") (fun xs H Q => ∃ i j, xs = [.int i, .int j] ∧ Q (.int (if j > i then j else i)) H) := by
  intro pins s σ H xs us Q I r h
  obtain ⟨i, j, rfl, q⟩ := h
  obtain ⟨u, w', rfl, ⟨t, rfl⟩, ⟨t', rfl⟩⟩ := vals2 r
  refine max_two_ints (I.ok.hd hc) fun h' tk k => ⟨_, H, I.kept k, ?_, q⟩
  by_cases hj : j > i
  · rw [if_pos hj, if_pos hj]; exact ⟨_, rfl⟩
  · rw [if_neg hj, if_neg hj]; exact ⟨_, rfl⟩
theorem call_min2 (hc : X.calm = true) : CallR X (.builtin "min") (fun xs H Q => ∃ i j, xs = [.int i, .int j] ∧ Q (.int (if j < i then j else i)) H) := by
  intro pins s σ H xs us Q I r h
  obtain ⟨i, j, rfl, q⟩ := h
  obtain ⟨u, w', rfl, ⟨t, rfl⟩, ⟨t', rfl⟩⟩ := vals2 r
  refine min_two_ints (I.ok.hd hc) fun h' tk k => ⟨_, H, I.kept k, ?_, q⟩
  by_cases hj : j < i
  · rw [if_pos hj, if_pos hj]; exact ⟨_, rfl⟩
  · rw [if_neg hj, if_neg hj]; exact ⟨_, rfl⟩
end
end L2
namespace L2
open PySem PySem.Spec PyProof.Rows
structure ObjM (h : Heap) (x dx C : Addr) (mA : Str → Option Value) : Prop where
  obj : h.get? x = some (PySem.W.instObj C dx)
  ns : h.Ns1 dx mA
  ne : dx ≠ x
theorem lookIn_ns {h : Heap} {dx : Addr} {mA : Str → Option Value} (n : h.Ns1 dx mA) : ∃ od, h.get? dx = some od ∧ ∀ name, PySem.W.lookIn name od = some (mA name) := by
  obtain ⟨o, es, ep, ho, hd, hk, _, hm⟩ := n
  refine ⟨o, ho, fun name => ?_⟩
  have e := hm name
  unfold nsFind findBy at e
  rw [← Array.find?_toList] at e
  unfold PySem.W.lookIn
  rw [hd]
  dsimp only
  split
  · rename_i y q
    rw [q] at e
    exact congrArg some e
  · rename_i q
    rw [q] at e
    have a : es.toList.any (·.refKey) = false := by
      rw [List.any_eq_false]
      intro y hy
      obtain ⟨z, t, hkey⟩ := hk y (Array.mem_toList_iff.mp hy)
      simp [DictEntry.refKey, hkey]
    have a' : ¬ es.toList.any (·.refKey) = true := by rw [a]; exact Bool.false_ne_true
    rw [if_neg a']
    exact congrArg some e
theorem ObjM.look {h : Heap} {x dx C : Addr} {mA : Str → Option Value} (I : ObjM h x dx C mA) : ∃ od, PySem.W.InstAt h x (PySem.W.instObj C dx) C (some od) ∧ ∀ name, PySem.W.lookIn name od = some (mA name) :=
  let ⟨od, ho, hl⟩ := lookIn_ns I.ns
  ⟨od, ⟨I.obj, rfl, rfl, ho⟩, hl⟩
section
variable {prog : Program} {w : World} {A : Around} {E : Value → Shared → Prop} {s : Shared} {K : PySem.W.Frag} {x dx C f : Addr} {mA : Str → Option Value} {name : Str} {v : Value}
end
theorem RelO.none_of {o : Option Value} (r : RelO none o) : o = none := by
  cases o with
  | none => rfl
  | some u => exact (show False from r).elim
section
variable {P : Program} {w : World} {H H' : Hp} {h h' : Heap} {a C dx : Addr} {fs fs' : List (Str × V)}
theorem ins_get (hok : HOk P w H h) (e : H a = some (.ins C dx fs)) : ∃ mA, ObjM h a dx C mA ∧ (∀ f, RelO (fs.lookup f) (mA f)) ∧ PySem.Within mA (fs.map (·.1)) ∧ fs.length ≤ 1000 ∧ H dx = some (.own a) := by
  obtain ⟨d, z, ne, ob, mA, n, r, q⟩ := (show ObjOk P w H h a (.ins C dx fs) from hok a _ e)
  exact ⟨mA, ⟨ob, n, ne⟩, r, q, z, d⟩
end
structure Cls (K : PySem.W.Frag) (C : Addr) : Prop where
  pg : PySem.W.plainGet K C Str.empty = true
  hd : PySem.W.hasDictIn K C = true
  po : PySem.W.plainOver K C = true
  sa : PySem.W.findIn K (.ref C) "__setattr__" = some (some (.builtin "object.__setattr__"))
theorem Cls.get {K : PySem.W.Frag} {C : Addr} (c : Cls K C) (f : Str) : PySem.W.plainGet K C f = true := c.pg
structure Con (K : PySem.W.Frag) (C : Addr) (f : Str) (v : V) (u : Value) : Prop where
  at_ : PySem.W.findIn K (.ref C) f = some (some u)
  rel : RelV v u
  get : PySem.W.specialIn K u "__get__" = some none
  cp : PySem.W.copiedNames.contains f = false
structure Meth (K : PySem.W.Frag) (C : Addr) (m : Str) (f : Addr) : Prop where
  at_ : PySem.W.findIn K (.ref C) m = some (some (.ref f))
  fn : PySem.W.isFn K (.ref f) = true
  kp : PySem.W.keepIn K (.ref f) = true
section
variable {X : Cx} {pins : List (Addr × Obj)} {σ : St} {H : Hp} {s : Shared} {a C dx : Addr} {fs : List (Str × V)} {f : Str} {v : V} {A : Around} {E : Value → Shared → Prop}
end
section
variable {X : Cx} {o e value : Expr} {f : Str} {pos pos' tpos : Pos} {ta tv : TE}
end
section
variable {X : Cx} {pins : List (Addr × Obj)} {σ : St} {H : Hp} {s : Shared} {A : Around} {E : Value → Shared → Prop} {Q : Value → Shared → Prop} {c : Value} {b : Bool}
inductive TyOf (K : PySem.W.Frag) (H : Hp) : V → Value → Prop where
  | non : TyOf K H .non (.type "NoneType")
  | bl (x : Bool) : TyOf K H (.bl x) (.type "bool")
  | int (i : Int) : TyOf K H (.int i) (.type "int")
  | str (x : Str) : TyOf K H (.str x) (.type "str")
  | flt (x : UInt64) : TyOf K H (.flt x) (.type "float")
  | lst {a : Addr} {xs : List V} (e : H a = some (.lst xs)) : TyOf K H (.ref a) (.type "list")
  | frz {a : Addr} {o : Obj} {xs : List V} (e : H a = some (.frz o (.lst xs))) : TyOf K H (.ref a) (.type "list")
  | tup {a : Addr} {xs : List V} (e : H a = some (.tup xs)) : TyOf K H (.ref a) (.type "tuple")
  | dK {a : Addr} {kvs : List (Key × V)} (e : H a = some (.dK kvs)) : TyOf K H (.ref a) (.type "dict")
  | dT {a : Addr} {kvs : List (List Key × V)} (e : H a = some (.dT kvs)) : TyOf K H (.ref a) (.type "dict")
  | ins {a C dx : Addr} {fs : List (Str × V)} (e : H a = some (.ins C dx fs)) (cl : Cls K C) (ha : PySem.W.findIn K (.ref C) "__class__" = some (some (.builtin "object.__class__")))
      (hn : PySem.W.specialIn K (.builtin "object.__class__") "__get__" = some (some (.builtin "getset_descriptor.__get__"))) (htk : PySem.W.takesIn K (.builtin "object.__class__") = some true)
      (hm : PySem.W.mroIn K C (.type "object") = some true) : TyOf K H (.ref a) (.ref C)
theorem isinst_ok {x : V} {u t : Value} (I : Inv X pins σ H s) (rx : RelV x u) (ty : TyOf X.K H x t) (e : PySem.W.kitOne X.K t c = some b) (h : ∀ tk, Q (.bool b) { s with toks := tk }) :
    wpAny (model X.prog X.w) A (call (.builtin "isinstance") [u, c]) Q E s := by
  cases ty with
  | non => cases (show u = Value.none from rx); exact PySem.W.kia_one PySem.W.kitx_none I.kIn True.intro e (fun z => nomatch z) h
  | bl y => cases (show u = Value.bool y from rx); exact PySem.W.kia_one PySem.W.kitx_bool I.kIn True.intro e (fun z => nomatch z) h
  | int i => obtain ⟨t, q⟩ := (show ∃ t, u = Value.int i t from rx); cases q; exact PySem.W.kia_one PySem.W.kitx_int I.kIn True.intro e (fun z => nomatch z) h
  | str y => obtain ⟨t, q⟩ := (show ∃ t, u = Value.str y t from rx); cases q; exact PySem.W.kia_one PySem.W.kitx_str I.kIn True.intro e (fun z => nomatch z) h
  | flt y => obtain ⟨t, q⟩ := (show ∃ t, u = Value.float y t from rx); cases q; exact PySem.W.kia_one PySem.W.kitx_float I.kIn True.intro e (fun z => nomatch z) h
  | @lst a xs ea =>
    cases (show u = Value.ref a from rx)
    obtain ⟨_, _, n, _, h1⟩ := (show ObjOk X.prog X.w H s.heap a (.lst xs) from I.hok a _ ea)
    exact PySem.W.kia_one PySem.W.kitx_list I.kIn ⟨_, h1, rfl⟩ e (fun z => nomatch z) h
  | @frz a ob xs ea =>
    cases (show u = Value.ref a from rx)
    obtain ⟨_, _, _, n, _, h1⟩ := (show ObjOk X.prog X.w H s.heap a (.frz ob (.lst xs)) from I.hok a _ ea)
    exact PySem.W.kia_one PySem.W.kitx_list I.kIn ⟨_, h1, rfl⟩ e (fun z => nomatch z) h
  | @tup a xs ea =>
    cases (show u = Value.ref a from rx)
    obtain ⟨_, _, _, p⟩ := (show ObjOk X.prog X.w H s.heap a (.tup xs) from I.hok a _ ea)
    obtain ⟨o, h1, h2, _⟩ := p
    exact PySem.W.kia_one PySem.W.kitx_tuple I.kIn ⟨o, h1, h2⟩ e (fun z => nomatch z) h
  | @dK a kvs ea =>
    cases (show u = Value.ref a from rx)
    obtain ⟨_, _, vs, _, p⟩ := (show ObjOk X.prog X.w H s.heap a (.dK kvs) from I.hok a _ ea)
    obtain ⟨o, es, ep, h1, h2, _⟩ := p
    exact PySem.W.kia_one PySem.W.kitx_dict I.kIn ⟨o, h1, h2.1⟩ e (fun z => nomatch z) h
  | @dT a kvs ea =>
    cases (show u = Value.ref a from rx)
    obtain ⟨_, _, xs, _, o, es, ep, h1, h2, _⟩ := (show ObjOk X.prog X.w H s.heap a (.dT kvs) from I.hok a _ ea)
    exact PySem.W.kia_one PySem.W.kitx_dict I.kIn ⟨o, h1, h2.1⟩ e (fun z => nomatch z) h
  | @ins a C dx fs ea cl ha hn htk hm =>
    cases (show u = Value.ref a from rx)
    obtain ⟨mA, O, _⟩ := ins_get I.hok ea
    obtain ⟨od, J, _⟩ := O.look
    exact PySem.W.kia_one (PySem.W.kitx_own (cl.get _) cl.hd ha hn htk hm) I.kIn J e (fun z => nomatch z) h
end
end L2
namespace L2
open PySem PySem.Spec PyProof.Rows
structure Room (k : Nat) (A : Around) : Prop where
  hd : A.handled = none
  dp : A.depth + 3 * k + 5 < recursionLimit
  un : A.units + 16 * k + 200 < cLine
theorem Room.mono {j k : Nat} {A : Around} (r : Room k A) (h : j ≤ k) : Room j A := ⟨r.hd, by have := r.dp; omega, by have := r.un; omega⟩
theorem Room.deeper {k : Nat} {A : Around} (r : Room (k + 1) A) (env : Env) : Room k (A.deeper env) :=
  ⟨r.hd, by have := r.dp; show A.depth + 1 + 3 * k + 5 < _; omega, by have := r.un; show A.units + 3 + 16 * k + 200 < _; omega⟩
theorem Room.depth {k : Nat} {A : Around} (r : Room k A) : A.depth < recursionLimit := by have := r.dp; omega
theorem Room.units {k : Nat} {A : Around} (r : Room k A) : A.units + 64 < cLine := by have := r.un; omega
def tNil : TA := fun _ H Q => Q [] H
def tCons (ta : TE) (tr : TA) : TA := fun σ H Q => ta σ H fun x H1 => tr σ H1 fun xs H2 => Q (x :: xs) H2
section
variable {X : Cx} {e : Expr} {es : List Expr} {te : TE} {t : TA} {pos : Pos}
theorem pa_nil : PA X [] tNil := fun _ _ _ _ H Q I h => Calls.spliced_nil ⟨[], H, I, .nil, h⟩
theorem pa_cons (ha : PE X e te) (hr : PA X es t) (hs : starEach (e :: es) X.env = (false, eval e X.env) :: starEach es X.env := by rfl) : PA X (e :: es) (tCons te t) := by
  intro pos pins s σ H Q I h
  rw [hs]
  show wpAny _ _ (spliced ((false, eval e X.env) :: backTo pos (starEach es X.env))) _ _ s
  refine Calls.spliced_cons (thn (ha pins s σ H _ I h) fun u s1 ⟨x, H1, I1, r1, q1⟩ => ?_)
  exact thn (hr pos pins s1 σ H1 _ I1 q1) fun us s2 ⟨xs, H2, I2, r2, q2⟩ => ⟨x :: xs, H2, I2, .cons r1 r2, q2⟩
def tTup (t : TA) : TE := fun σ H Q => t σ H fun xs H1 => xs.length ≤ sizeLine ∧ ∀ p, H1 p = none → Q (.ref p) (upd H1 p (.tup xs))
theorem pe_tup {x1} (h : PA X es t) : PE X (.Tuple es x1 pos) (tTup t) := by
  intro pins s σ H Q I hq
  refine wpAny_Tuple_spliced (thn (h pos pins s σ H _ I hq) fun us s1 ⟨xs, H1, I1, r, z, q⟩ => ⟨by rw [← r.length]; exact z, ?_⟩)
  have hf : H1 s1.heap.objs.size = none := I1.hok.fresh (Nat.le_refl _)
  refine ⟨.ref s1.heap.objs.size, upd H1 s1.heap.objs.size (.tup xs), I1.laid (t' := s1.toks) (fun b u e => Heap.get?_push_of_some _ e) (Nat.le_refl _) ?_, rfl, q _ hf⟩
  exact ⟨z, us, r, ⟨_, Heap.get?_push_size _ rfl, rfl, _, rfl⟩⟩
end
abbrev Sp := List V → Hp → VK → XK → Prop
abbrev CXT := List Env → Hp → Shared → XK → Value → Shared → Prop
structure Env0 (P : Program) (w : World) (K : PySem.W.Frag) (mg : Str → Option Value) (base : Heap) (A : Around) (outer : List Env) (s : Shared) (H : Hp) : Prop where
  frames : A.frames = some outer
  mod : Mod K mg base
  bs : ∀ b o, base.get? b = some o → s.heap.get? b = some o ∧ H b = none
  bsz : base.objs.size ≤ s.heap.objs.size
  funs : s.heap.FunFrames base outer
  frf : ∀ b ∈ frs outer, H b = none
  hok : HOk P w H s.heap
  bare : AllBare s.gens
def CE (outer : List Env) (P : Program) (w : World) (H : Hp) (s : Shared) (Q : VK) (u : Value) (s' : Shared) : Prop :=
  ∃ v H', s'.os = s.os ∧ AllBare s'.gens ∧ Un (frs outer) [] H H' s.heap s'.heap ∧ HOk P w H' s'.heap ∧ RelV v u ∧ Q v H'
def CR (CX : CXT) (outer : List Env) (P : Program) (w : World) (H : Hp) (s : Shared) (Q : VK) (E : XK) (r : Result) (s' : Shared) : Prop :=
  match r with
  | .ok (.ret u) => CE outer P w H s Q u s'
  | .ok _ => False
  | .error e => CX outer H s E e s'
structure FnOk (P : Program) (w : World) (K : PySem.W.Frag) (mg : Str → Option Value) (base : Heap) (CX : CXT) (k : Nat) (f : Addr) (fd : FuncData) (ps : List Str) (sp : Sp) : Prop where
  len : ∀ vs H Q E, sp vs H Q E → vs.length = ps.length
  run : ∀ (A : Around) (outer : List Env) (s : Shared) (H : Hp) (args : Args) (us : List Value) (vs : List V) (Q : VK) (E : XK), Room k A → Env0 P w K mg base A outer s H → BindsTo s fd args (ps.zip us) → Vals vs us → sp vs H Q E →
    codeAny (model P w) A (.call (.ref f) args) (CR CX outer P w H s Q E) s
theorem FnOk.mono {P : Program} {w : World} {K : PySem.W.Frag} {mg : Str → Option Value} {base : Heap} {CX : CXT} {j k : Nat} {f : Addr} {fd : FuncData} {ps : List Str} {sp : Sp} (F : FnOk P w K mg base CX j f fd ps sp) (h : j ≤ k) :
    FnOk P w K mg base CX k f fd ps sp := ⟨F.len, fun A outer s H args us vs Q E hr => F.run A outer s H args us vs Q E (hr.mono h)⟩
theorem FnOk.imp {P : Program} {w : World} {K : PySem.W.Frag} {mg : Str → Option Value} {base : Heap} {CX : CXT} {k : Nat} {f : Addr} {fd : FuncData} {ps : List Str} {sp sp' : Sp} (F : FnOk P w K mg base CX k f fd ps sp)
    (h : ∀ vs H Q E, sp' vs H Q E → sp vs H Q E) : FnOk P w K mg base CX k f fd ps sp' :=
  ⟨fun vs H Q E q => F.len vs H Q E (h _ _ _ _ q), fun A outer s H args us vs Q E hr he hb hv hs => F.run A outer s H args us vs Q E hr he hb hv (h _ _ _ _ hs)⟩
section
variable {X : Cx} {pins : List (Addr × Obj)} {σ : St} {H : Hp} {s s' : Shared}
theorem Inv.env0 (I : Inv X pins σ H s) : Env0 X.prog X.w X.K X.mg X.base X.A X.stack s H :=
  ⟨I.ok.frames, I.ok.mod, I.bs, Nat.le_trans I.ok.bsz I.sz, I.stack, I.stkFree, I.hok, I.bare⟩
theorem Inv.after {Q : VK} {u : Value} (I : Inv X pins σ H s) (h : CE X.stack X.prog X.w H s Q u s') : EP X pins σ Q u s' := by
  obtain ⟨v, H', os, bare, un, hok, r, q⟩ := h
  obtain ⟨hh, g, d, t, os'⟩ := s'
  obtain rfl : os' = s.os := os
  exact ⟨v, H', I.call (h' := hh) (g' := g) (d' := d) (t' := t) (ch := []) un hok bare (fun b z => absurd z (by simp)), r, q⟩
end
def tCall (sp : Sp) (dvs : List V) (E : XK) (t : TA) : TE := fun σ H Q => t σ H fun vs H1 => sp (vs ++ dvs) H1 Q E
def Binds (K : PySem.W.Frag) (fd : FuncData) (ps : List Str) (ds : List Value) : Prop :=
  ∀ (s : Shared) (us : List Value), K.In s.heap → (us ++ ds).length = ps.length → BindsTo s fd ⟨us, []⟩ (ps.zip (us ++ ds))
theorem Binds.all {K : PySem.W.Frag} {fd : FuncData} {ps : List Str} (h : ∀ us : List Value, us.length = ps.length → bindArgs fd ⟨us, []⟩ = pure (ps.zip us)) : Binds K fd ps [] := fun s us _ hl => by
  rw [List.append_nil] at hl ⊢
  exact .of_eq (h us hl)
def Passes (CX : CXT) (X : Cx) (E : XK) : Prop := ∀ (pins : List (Addr × Obj)) (σ : St) (H : Hp) (s : Shared) (e : Value) (s' : Shared), Inv X pins σ H s → CX X.stack H s E e s' → X.xe e s'
section
variable {X : Cx} {CX : CXT} {k : Nat} {f C : Addr} {fd : FuncData} {ps : List Str} {sp : Sp} {dvs : List V} {ds : List Value} {E : XK} {x m : Str} {p pos apos : Pos} {e o : Expr} {es : List Expr} {ta : TE} {t : TA}
theorem run_fn {pins : List (Addr × Obj)} {σ : St} {H : Hp} {s : Shared} {Q : VK} {us : List Value} {vs : List V} (F : FnOk X.prog X.w X.K X.mg X.base CX k f fd ps sp) (hr : Room k X.A) (hb : Binds X.K fd ps ds) (hd : Vals dvs ds) (hx : Passes CX X E)
    (I : Inv X pins σ H s) (r : Vals vs us) (h : sp (vs ++ dvs) H Q E) : wpAny (model X.prog X.w) X.A (call (.ref f) us) (EP X pins σ Q) X.xe s := by
  have r2 : Vals (vs ++ dvs) (us ++ ds) := r.append hd
  have hl : (us ++ ds).length = ps.length := by rw [← r2.length]; exact F.len _ _ _ _ h
  refine wpAny_call (codeAny_mono (F.run X.A X.stack s H ⟨us, []⟩ (us ++ ds) (vs ++ dvs) Q E hr I.env0 (hb s us I.kIn hl) r2 h) fun r s' hq => ?_)
  cases r with
  | error e => exact hx pins σ H s e s' I hq
  | ok fl =>
    cases fl with
    | ret u => exact I.after hq
    | next => exact False.elim hq
    | brk => exact False.elim hq
    | cont => exact False.elim hq
theorem pe_call (F : FnOk X.prog X.w X.K X.mg X.base CX k f fd ps sp) (hr : Room k X.A) (hg : Gl X x) (hm : X.mg x = some (.ref f)) (hk : PySem.W.keepIn X.K (.ref f) = true) (hb : Binds X.K fd ps ds) (hd : Vals dvs ds) (hx : Passes CX X E)
    (ha : PA X (e :: es) t) (hdb : (x == ("__debug__" : Str)) = false := by decide) (he : starEach (e :: es) X.env = (false, eval e X.env) :: starEach es X.env := by rfl) (hpl : (backTo pos (starEach es X.env)).any (·.1) = false := by rfl) :
    PE X (.Call (.Name x p) (e :: es) [] pos) (tCall sp dvs E t) := by
  intro pins s σ H Q I h
  refine wpAny_Call_Name_kw (ld_glob I hg hm ?_ hdb)
  refine PySem.W.callWith_K (h₀ := X.base) I.ok.mod.kin hk (thn (ha pos pins s σ H _ I h) fun us s1 ⟨vs, H1, I1, r, q⟩ => ⟨I1.kIn, ?_⟩) he hpl
  exact run_fn F hr hb hd hx I1 r q
structure Mk (K : PySem.W.Frag) (C f : Addr) : Prop where
  makes : PySem.W.makesIn K C = true
  init : PySem.W.findIn K (.ref C) "__init__" = some (some (.ref f))
  fn : PySem.W.isFn K (.ref f) = true
  kp : PySem.W.keepIn K (.ref C) = true
end
section
variable {X : Cx} {CX : CXT} {k : Nat} {f C : Addr} {fd : FuncData} {ps ks : List Str} {sp : Sp} {E : XK} {x m : Str} {p pos apos kpos : Pos} {e o : Expr} {es : List Expr} {kws : List Keyword} {te ta : TE} {t tk : TA} {nm : Option Str}
structure KBinds (K : PySem.W.Frag) (fd : FuncData) (ps ks : List Str) (g : List Value → List Value → List Value) (gV : List V → List V → List V) : Prop where
  to : ∀ (s : Shared) (us ws : List Value), K.In s.heap → (g us ws).length = ps.length → BindsTo s fd ⟨us, ks.zip ws⟩ (ps.zip (g us ws))
  rel : ∀ {vs : List V} {us : List Value} {zs : List V} {ws : List Value}, Vals vs us → Vals zs ws → Vals (gV vs zs) (g us ws)
variable {g : List Value → List Value → List Value} {gV : List V → List V → List V}
end
structure FnScope (N P : List Str) (sc : Scope) : Prop where
  kind : sc.kind = .function
  co : sc.isCoroutine = false
  gen : sc.isGenerator = false
  nd : N.Nodup
  pre : N.take P.length = P
  par : ∀ x ∈ P, sc.names.lookup x = some .local ∨ sc.names.lookup x = some .cell
  nofree : ∀ y ∈ sc.names, y.2 ≠ .free
theorem bindL_out {kindOf : Str → Option NameKind} {x : Str} : ∀ {binds : List (Str × Value)} {m : Str → Option Value}, (∀ v, (x, v) ∉ binds) → bindL kindOf binds m x = m x
  | [], _, _ => rfl
  | (n, v) :: r, m, h => by
    unfold bindL
    rw [bindL_out fun w hw => h w (List.mem_cons_of_mem _ hw)]
    split
    · have : x ≠ n := by rintro rfl; exact h v List.mem_cons_self
      simp [this]
    · rfl
theorem bindC_out {kindOf : Str → Option NameKind} {x : Str} : ∀ {binds : List (Str × Value)} {m : Str → Option Value}, (∀ v, (x, v) ∉ binds) → bindC kindOf binds m x = m x
  | [], _, _ => rfl
  | (n, v) :: r, m, h => by
    unfold bindC
    rw [bindC_out fun w hw => h w (List.mem_cons_of_mem _ hw)]
    split
    · rfl
    · have : x ≠ n := by rintro rfl; exact h v List.mem_cons_self
      simp [this]
theorem bindL_get {kindOf : Str → Option NameKind} {x : Str} {v : Value} : ∀ {P : List Str} {vs : List Value} {i : Nat} {m : Str → Option Value}, P.Nodup → P[i]? = some x → vs[i]? = some v → kindOf x = some .local →
    bindL kindOf (P.zip vs) m x = some v
  | [], _, _, _, _, h, _, _ => by simp at h
  | _ :: _, [], _, _, _, _, h, _ => by simp at h
  | p :: P, w :: vs, 0, m, nd, h1, h2, hk => by
    simp at h1 h2; subst h1; subst h2
    show bindL kindOf ((p, w) :: P.zip vs) m p = _
    unfold bindL
    rw [bindL_out fun v hv => (List.nodup_cons.mp nd).1 (List.of_mem_zip hv).1, if_pos hk]
    simp
  | p :: P, w :: vs, i + 1, m, nd, h1, h2, hk => by
    show bindL kindOf ((p, w) :: P.zip vs) m x = _
    unfold bindL
    exact bindL_get (i := i) (List.nodup_cons.mp nd).2 (by simpa using h1) (by simpa using h2) hk
theorem bindC_get {kindOf : Str → Option NameKind} {x : Str} {v : Value} : ∀ {P : List Str} {vs : List Value} {i : Nat} {m : Str → Option Value}, P.Nodup → P[i]? = some x → vs[i]? = some v → kindOf x ≠ some .local →
    bindC kindOf (P.zip vs) m x = some v
  | [], _, _, _, _, h, _, _ => by simp at h
  | _ :: _, [], _, _, _, _, h, _ => by simp at h
  | p :: P, w :: vs, 0, m, nd, h1, h2, hk => by
    simp at h1 h2; subst h1; subst h2
    show bindC kindOf ((p, w) :: P.zip vs) m p = _
    unfold bindC
    rw [bindC_out fun v hv => (List.nodup_cons.mp nd).1 (List.of_mem_zip hv).1, if_neg hk]
    simp
  | p :: P, w :: vs, i + 1, m, nd, h1, h2, hk => by
    show bindC kindOf ((p, w) :: P.zip vs) m x = _
    unfold bindC
    exact bindC_get (i := i) (List.nodup_cons.mp nd).2 (by simpa using h1) (by simpa using h2) hk
def start (N : List Str) (vs : List V) : St := vs.map some ++ List.replicate (N.length - vs.length) none
def cxOf (CX : CXT) (P : Program) (w : World) (K : PySem.W.Frag) (mg : Str → Option Value) (base : Heap) (N : List Str) (qual : Str) (scope : Scope) (f : Addr) (cd : Value) (A : Around) (outer : List Env) (s : Shared) (H : Hp) (E : XK) : Cx where
  prog := P
  w := w
  K := K
  mg := mg
  base := base
  A := A.deeper (envOfC qual scope s.heap.objs.size f cd)
  N := N
  s₀ := s
  H₀ := H
  env := envOfC qual scope s.heap.objs.size f cd
  outer := outer
  stack := envOfC qual scope s.heap.objs.size f cd :: outer
  ex := []
  calm := true
  fn := fun _ => true
  pn := []
  xe := fun e s' => wpAny (model P w) (A.deeper (envOfC qual scope s.heap.objs.size f cd)) (leaving (envOfC qual scope s.heap.objs.size f cd) e) (fun _ s'' => CX outer H s E e s'') (fun e' s'' => CX outer H s E e' s'') s'
theorem cell_has {sc : Scope} {n : Nat} {x : Str} (h : sc.names.lookup x = some .cell) : ∃ c, (cellsFrom n sc.names []).lookup x = some c := by
  have q := PySem.W.cellsFrom_some sc.names n [] (.inl h)
  exact Option.isSome_iff_exists.mp q
theorem inv_start {CX : CXT} {P : Program} {w : World} {K : PySem.W.Frag} {mg : Str → Option Value} {base : Heap} {N ps : List Str} {qual : Str} {scope : Scope} {f : Addr} {cd : Value} {A : Around} {outer : List Env} {s s1 : Shared} {H : Hp} {E : XK} {us : List Value} {vs : List V}
    (S : FnScope N ps scope) (hd : A.handled = none) (e0 : Env0 P w K mg base A outer s H) (hl : vs.length = ps.length) (r : Vals vs us)
    (x : InCallC s s.heap.objs.size (bindL (envOfC qual scope s.heap.objs.size f cd).kindOf (ps.zip us) fun _ => none) (cellsFrom (s.heap.objs.size + 1) scope.names []) (bindC (envOfC qual scope s.heap.objs.size f cd).kindOf (ps.zip us) fun _ => none) s1) :
    Inv (cxOf CX P w K mg base N qual scope f cd A outer s H E) [] (start N vs) H s1 := by
  have hpl : ps.length ≤ N.length := by have := congrArg List.length S.pre; rw [List.length_take] at this; omega
  obtain ⟨h1, tk, rfl, hk⟩ := x.done
  have noA : ∀ b : Addr, b ∉ (cxOf CX P w K mg base N qual scope f cd A outer s H E).ex := fun b z => absurd (show b ∈ ([] : List Addr) from z) (by simp)
  refine ⟨⟨e0.mod, S.kind, rfl, rfl, Nat.le_refl _, fun y z c h1 h2 => ?_, fun y hy => ?_, fun y c _ h => ?_, fun _ => hd, Around.frames_deeper e0.frames, .inr ⟨rfl, rfl⟩, fun b z => absurd z (noA b), e0.bs, e0.bsz, fun b _ _ => noA b, fun b z => absurd z (noA b), e0.funs, e0.frf⟩,
    rfl, e0.bare, Un.kept hk, ⟨_, x.toInCall.ns, fun i y v h1 h2 h3 => ?_⟩, fun y c h => ⟨_, x.cell y c h⟩, e0.hok.fresh (Nat.le_refl _), fun y c h => ?_, fun p hp => absurd (show p ∈ ([] : List (Addr × Obj)) from hp) (by simp), e0.hok.kept hk, ?_⟩
  · exact name_of_addr x.apart (PySem.mem_of_lookup h1) (PySem.mem_of_lookup h2)
  · have hy : scope.names.lookup y = some .cell ∨ scope.names.lookup y = some .free := hy
    rcases hy with hy | hy
    · exact cell_has hy
    · exact absurd rfl (S.nofree _ (PySem.mem_of_lookup hy))
  · exact Nat.le_of_lt (x.above y c (PySem.mem_of_lookup h))
  · have hi : i < vs.length := by
      unfold start at h2
      by_cases hi : i < vs.length
      · exact hi
      · rw [List.getElem?_append_right (by simpa using hi)] at h2
        rw [List.getElem?_replicate] at h2
        split at h2 <;> cases h2
    have ha : vs[i]? = some v := by
      unfold start at h2
      rw [List.getElem?_append_left (by simpa using hi), List.getElem?_map] at h2
      cases e : vs[i]? with
      | none => rw [e] at h2; cases h2
      | some a => rw [e] at h2; cases h2; rfl
    obtain ⟨u, hu, rv⟩ := r.get ha
    have hp : ps[i]? = some y := by
      rw [← S.pre, List.getElem?_take_of_lt (by omega)]; exact h1
    have ndP : ps.Nodup := by rw [← S.pre]; exact S.nd.sublist (List.take_sublist _ _)
    refine ⟨u, rv, ?_⟩
    rcases S.par y (List.mem_of_getElem? hp) with k | k
    · exact .inl ⟨k, bindL_get ndP hp hu k⟩
    · obtain ⟨c, e⟩ := cell_has (n := s.heap.objs.size + 1) k
      refine .inr ⟨.inl k, c, e, ?_⟩
      have q := x.cell y c e
      rw [bindC_get ndP hp hu (by show scope.names.lookup y ≠ _; rw [k]; decide)] at q
      exact q
  · exact e0.hok.fresh (Nat.le_of_lt (x.above y c (PySem.mem_of_lookup h)))
  · unfold start
    show _ = N.length
    rw [List.length_append, List.length_map, List.length_replicate]
    omega
theorem fn_of {CX : CXT} {P : Program} {w : World} {K : PySem.W.Frag} {mg : Str → Option Value} {base : Heap} {k : Nat} {f : Addr} {name qual : Str} {params : Arguments} {body : List Stmt} {scope : Scope} {dV kV doc pm cdv ct oc : Value} {an od : Option Addr}
    {osl : Array (Option Value)} {N ps : List Str} {sp : Sp} (lk : K.lookup f = some ⟨oc, od, .func (PySem.W.fnOf name qual params body scope dV kV doc pm an cdv ct), osl⟩) (hcd : PySem.W.codeIn K cdv qual = true) (S : FnScope N ps scope)
    (len : ∀ vs H Q E, sp vs H Q E → vs.length = ps.length)
    (hbody : ∀ (A : Around) (outer : List Env) (s : Shared) (H : Hp) (vs : List V) (Q : VK) (E : XK), Room k (A.deeper (envOfC qual scope s.heap.objs.size f cdv)) → sp vs H Q E →
      ∃ t, PSs (cxOf CX P w K mg base N qual scope f cdv A outer s H E) body t ∧ t { nx := fun _ H' => Q .non H', rt := Q } (start N vs) H) :
    FnOk P w K mg base CX (k + 1) f (PySem.W.fnOf name qual params body scope dV kV doc pm an cdv ct) ps sp := by
  refine ⟨len, fun A outer s H args us vs Q E hr e0 hb r hsp => ?_⟩
  have hl := len _ _ _ _ hsp
  have KX : K.In s.heap := e0.mod.kin.keeps fun b o e => (e0.bs b o e).1
  have lim : s.heap.NoLimit := e0.mod.nolimit.keeps fun b o e => (e0.bs b o e).1
  have hkind : ∀ y ∈ ps.zip us, scope.names.lookup y.1 = some .local ∨ (scope.names.lookup y.1 = some .cell ∧ ((cellsFrom (s.heap.objs.size + 1) scope.names []).lookup y.1).isSome = true) := fun ⟨n, v⟩ hy => by
    rcases S.par n (List.of_mem_zip hy).1 with q | q
    · exact .inl q
    · exact .inr ⟨q, PySem.W.cellsFrom_some _ _ _ (.inl q)⟩
  refine codeAny_call_function hr.depth (KX _ _ lk) rfl S.co S.gen rfl (PySem.W.codeRec_of KX hcd) (hb _ _ _ _ ?_)
  refine wpAny_newFunctionEnv_cells S.kind hkind fun env he s1 x => ?_
  subst he
  refine ⟨lim.keeps x.toInCall.keep, codeAny_func ?_⟩
  obtain ⟨t, ht, hq⟩ := hbody A outer s H vs Q E (hr.deeper _) hsp
  have I : Inv (cxOf CX P w K mg base N qual scope f cdv A outer s H E) [] (start N vs) H s1 := inv_start S hr.hd e0 hl r x
  refine wpAny_mono (ht [] s1 (start N vs) H _ I hq) (fun fl s' hs => ?_) fun e s' hs => hs
  have fin : ∀ {σ' : St} {H' : Hp} {v : V} {u : Value}, Inv (cxOf CX P w K mg base N qual scope f cdv A outer s H E) [] σ' H' s' → RelV v u → Q v H' → CE outer P w H s Q u s' :=
    fun {σ' H' v u} J rv q => ⟨v, H', J.os, J.bare, J.base, J.hok, rv, q⟩
  cases fl with
  | ret u =>
    obtain ⟨v, σ', H', J, rv, q⟩ := hs
    exact fin J rv q
  | next =>
    obtain ⟨σ', H', J, q⟩ := hs
    exact fin (v := V.non) (u := Value.none) J rfl q
  | brk =>
    obtain ⟨_, _, _, q⟩ := hs
    exact False.elim q
  | cont =>
    obtain ⟨_, _, _, q⟩ := hs
    exact False.elim q
end L2
namespace L2
open PySem PySem.Spec PyProof.Rows
section
variable {X : Cx} {x : Str} {p pos : Pos} {e : Expr} {es : List Expr} {t : TA} {id T : String} {r : List V → Hp → VK → Prop}
def tCB (r : List V → Hp → VK → Prop) (t : TA) : TE := fun σ H Q => t σ H fun vs H1 => r vs H1 Q
theorem pe_callB (hc : CallR X (.builtin id) r) (hg : Gl X x) (hm : X.mg x = none) (hv : bootBuiltins x = some (.builtin id)) (ha : PA X (e :: es) t) (hn : x ≠ "__name__" := by decide) (hdb : (x == ("__debug__" : Str)) = false := by decide)
    (he : starEach (e :: es) X.env = (false, eval e X.env) :: starEach es X.env := by rfl) (hpl : (backTo pos (starEach es X.env)).any (·.1) = false := by rfl) : PE X (.Call (.Name x p) (e :: es) [] pos) (tCB r t) := by
  intro pins s σ H Q I h
  refine wpAny_Call_Name_kw (ld_blt I hg hm hv ?_ hn hdb)
  exact PyProof.Rows.callWith_builtin1 (thn (ha pos pins s σ H _ I h) fun us s1 ⟨vs, H1, I1, r1, q1⟩ => hc pins s1 σ H1 vs us Q I1 r1 q1) he hpl
end
end L2
namespace HT
open PySem PyProof.Rows
section
open PySem.SeqAt
open PySem.AutoSeq1 (wpAny_loadPart')
open PySem.MeetsSeq PySem.MeetsSeq2 PySem.MeetsSeq3
end
section
variable {prog : Program} {w : World} {A : Around} {E : Value → Shared → Prop} {s : Shared}
theorem cat_tup {t b : Addr} {vs ws : List Value} {Q : Value → Shared → Prop} (ht : IsTup s.heap t vs.toArray) (hb : IsTup s.heap b ws.toArray) (hv : vs ≠ [])
    (h1 : ws = [] → Q (.ref t) s) (h2 : ws ≠ [] → Q (.ref s.heap.objs.size) { s with heap := s.heap.push { cls := .type "tuple", data := .seq (vs ++ ws).toArray } })
    (hsz : vs.length + ws.length ≤ sizeLine) : wpAny (model prog w) A (binaryOp .Add (.ref t) (.ref b)) Q E s := by
  obtain ⟨⟨cls, dd, data, sl⟩, ho, hc, n, hd⟩ := id ht
  obtain ⟨⟨cls2, dd2, data2, sl2⟩, ho2, hc2, n2, hd2⟩ := id hb
  simp only at hc hd hc2 hd2
  subst hc hd hc2 hd2
  have e : vs.toArray ++ ws.toArray = (vs ++ ws).toArray := by simp
  by_cases hw : ws = []
  · exact concat_meets ⟨_, ho, rfl⟩ ⟨_, ho2, rfl⟩ noFill_tuple_add seq_tuple_add PySem.F.slot_tuple_add PySem.F.entry_tuple_add (PySem.F.args_tuple_add_2 _ _)
      (tuple_addW1 t b vs.toArray ws.toArray n n2 dd dd2 sl sl2 (by simpa using hv) (by simp [hw])) ⟨ho, ho2, h1 hw⟩
  · refine concat_meets ⟨_, ho, rfl⟩ ⟨_, ho2, rfl⟩ noFill_tuple_add seq_tuple_add PySem.F.slot_tuple_add PySem.F.entry_tuple_add (PySem.F.args_tuple_add_2 _ _)
      (tuple_addW2 t b vs.toArray ws.toArray n n2 dd dd2 sl sl2 (by simpa using hv) (by simpa using hw) (by rw [List.size_toArray, List.size_toArray]; exact hsz)) ⟨ho, ho2, ?_⟩
    rw [e]
    exact h2 hw
def sIx (n d : Nat) : Option Int → Nat
  | none => d
  | some v => if v < 0 then (v + (n : Int)).toNat else min v.toNat n
end
end HT
namespace L2
open PySem PySem.Spec PyProof.Rows
abbrev TO := St → Hp → (Option Int → Hp → Prop) → Prop
def PO (X : Cx) (e : Option Expr) (t : TO) : Prop :=
  ∀ (pins : List (Addr × Obj)) (s : Shared) (σ : St) (H : Hp) (Q : Option Int → Hp → Prop), Inv X pins σ H s → t σ H Q →
    wpAny (model X.prog X.w) X.A (evalPart e X.env) (fun u s' => ∃ o H', Inv X pins σ H' s' ∧ IsPart u o ∧ Q o H') X.xe s
section
variable {X : Cx} {e : Expr} {te : TE} {lo hi : Option Expr} {tl th : TO} {pos p2 : Pos}
def SlR (X : Cx) (r : V → Option Int → Option Int → Hp → VK → Prop) : Prop :=
  ∀ (pins : List (Addr × Obj)) (s : Shared) (σ : St) (H : Hp) (x : V) (v vl vu : Value) (lo hi : Option Int) (sl : Addr) (Q : VK), Inv X pins σ H s → RelV x v → s.heap.IsSliceOf sl vl vu .none → IsPart vl lo → IsPart vu hi → r x lo hi H Q →
    ∃ T id, typeLookup (.type T) "__getitem__" = pure (some (.builtin id)) ∧ s.TypeIs v T ∧ wpAny (model X.prog X.w) X.A (getItem v (.ref sl)) (EP X pins σ Q) X.xe s
theorem SlR.or {r r' : V → Option Int → Option Int → Hp → VK → Prop} (h : SlR X r) (h' : SlR X r') : SlR X (fun x lo hi H Q => r x lo hi H Q ∨ r' x lo hi H Q) := by
  intro pins s σ H x v vl vu lo hi sl Q I rx hs pl pu q
  rcases q with q | q
  · exact h pins s σ H x v vl vu lo hi sl Q I rx hs pl pu q
  · exact h' pins s σ H x v vl vu lo hi sl Q I rx hs pl pu q
def rCatT (K : PySem.W.Frag) : R2 := fun x y H Q => ∃ a b xs ys, x = .ref a ∧ y = .ref b ∧ SqT K H a xs ∧ SqT K H b ys ∧ xs ≠ [] ∧ xs.length + ys.length ≤ sizeLine ∧
  (ys = [] → Q (.ref a) H) ∧ (ys ≠ [] → ∀ p, H p = none → Q (.ref p) (upd H p (.tup (xs ++ ys))))
theorem Vals.nil_iff {xs : List V} {us : List Value} (r : Vals xs us) : us = [] ↔ xs = [] := by
  cases r with
  | nil => simp
  | cons _ _ => simp
theorem op_catT : OpR X (binaryOp .Add) (rCatT X.K) := by
  intro pins s σ H x y v u Q I rx ry h
  obtain ⟨a, b, xs, ys, rfl, rfl, ha, hb, hx, hz, q1, q2⟩ := h
  cases rx
  cases ry
  obtain ⟨its, r1, p1, _⟩ := I.tuple ha
  obtain ⟨its2, r2, p2, _⟩ := I.tuple hb
  refine HT.cat_tup p1 p2 (fun z => hx (r1.nil_iff.mp z)) (fun z => ⟨.ref a, H, I, rfl, q1 (r2.nil_iff.mp z)⟩) (fun z => ?_) (by rw [← r1.length, ← r2.length]; exact hz)
  refine ⟨.ref s.heap.objs.size, _, I.laid (t' := s.toks) (o := .tup (xs ++ ys)) (fun b ob q => Heap.get?_push_of_some _ q) (Nat.le_refl _) ?_, rfl, q2 (fun w => z (r2.nil_iff.mpr w)) _ (I.hok.fresh (Nat.le_refl _))⟩
  exact ⟨by rw [List.length_append]; exact hz, _, r1.append r2, IsTup.new _ _⟩
end
end L2
namespace L2
open PySem PySem.Spec PyProof.Rows
def ixN (n : Nat) (i : Int) : Option Nat := if 0 ≤ i then (if i < n then some i.toNat else none) else if -(n : Int) ≤ i then some (i + n).toNat else none
def atI {α : Type} (xs : List α) (i : Int) : Option α := (ixN xs.length i).bind fun j => xs[j]?
theorem ixN_seq {n : Nat} {i : Int} {j : Nat} (h : ixN n i = some j) : seqIndex? i n = some j ∧ j < n ∧ -(n : Int) ≤ i ∧ i < n := by
  unfold ixN at h
  by_cases h0 : 0 ≤ i
  · rw [if_pos h0] at h
    by_cases h1 : i < n
    · rw [if_pos h1] at h
      have e : i.toNat = j := Option.some.inj h
      exact ⟨by rw [seqIndex_of h0 h1, e], by omega, by omega, h1⟩
    · rw [if_neg h1] at h; cases h
  · rw [if_neg h0] at h
    by_cases h1 : -(n : Int) ≤ i
    · rw [if_pos h1] at h
      have e : (i + n).toNat = j := Option.some.inj h
      exact ⟨by rw [seqIndex_neg (by omega) h1, e], by omega, h1, by omega⟩
    · rw [if_neg h1] at h; cases h
theorem atI_get {α : Type} {xs : List α} {i : Int} {v : α} (h : atI xs i = some v) : ∃ j, seqIndex? i xs.length = some j ∧ xs[j]? = some v ∧ j < xs.length ∧ -(xs.length : Int) ≤ i ∧ i < xs.length := by
  unfold atI at h
  cases e : ixN xs.length i with
  | none => rw [e] at h; cases h
  | some j =>
    rw [e] at h
    obtain ⟨h1, h2, h3, h4⟩ := ixN_seq e
    exact ⟨j, h1, h, h2, h3, h4⟩
theorem atI_nat {α : Type} {xs : List α} {j : Nat} {v : α} (h : xs[j]? = some v) : atI xs (j : Int) = some v := by
  have hj : j < xs.length := (List.getElem?_eq_some_iff.mp h).1
  have e : ixN xs.length (j : Int) = some j := by
    unfold ixN
    rw [if_pos (by omega), if_pos (by omega)]; simp
  unfold atI; rw [e]; exact h
def PlainIx (b : Expr) : Prop := ∀ o i, subscripted b false o i = operate [o, i] (getItem o i)
def IxR (X : Cx) (r : R2) : Prop :=
  ∀ (value slice : Expr) (pins : List (Addr × Obj)) (s : Shared) (σ : St) (H : Hp) (x y : V) (v u : Value) (Q : VK), Inv X pins σ H s → RelV x v → RelV y u → r x y H Q →
    subscripted slice false v u = operate [v, u] (getItem v u) → wpAny (model X.prog X.w) X.A (subscriptTail value slice v u) (EP X pins σ Q) X.xe s
def MtR (X : Cx) (id : String) (r : V → List V → Hp → VK → Prop) : Prop :=
  ∀ (pins : List (Addr × Obj)) (s : Shared) (σ : St) (H : Hp) (x : V) (xs : List V) (v : Value) (us : List Value) (Q : VK), Inv X pins σ H s → RelV x v → Vals xs us → r x xs H Q →
    wpAny (model X.prog X.w) X.A (call (.builtin id) (v :: us)) (EP X pins σ Q) X.xe s
section
variable {X : Cx} {a b : Expr} {ta tb : TE} {pos : Pos}
theorem IxR.or {r r' : R2} (h : IxR X r) (h' : IxR X r') : IxR X (fun x y H Q => r x y H Q ∨ r' x y H Q) := by
  intro value slice pins s σ H x y v u Q I rx ry q hs
  rcases q with q | q
  · exact h value slice pins s σ H x y v u Q I rx ry q hs
  · exact h' value slice pins s σ H x y v u Q I rx ry q hs
theorem MtR.or {id : String} {r r' : V → List V → Hp → VK → Prop} (h : MtR X id r) (h' : MtR X id r') : MtR X id (fun x xs H Q => r x xs H Q ∨ r' x xs H Q) := by
  intro pins s σ H x xs v us Q I rx rs q
  rcases q with q | q
  · exact h pins s σ H x xs v us Q I rx rs q
  · exact h' pins s σ H x xs v us Q I rx rs q
theorem pe_ix {r : R2} (hr : IxR X r) (ha : PE X a ta) (hb : PE X b tb) (hs : PlainIx b) : PE X (.Subscript a b pos) (tOp r ta tb) := by
  intro pins s σ H Q I h
  exact Subscript_ (binT ha hb I h fun v u s2 x y H2 I2 rx ry q => hr a b pins s2 σ H2 x y v u Q I2 rx ry q (hs _ _))
def rIxL (K : PySem.W.Frag) : R2 := fun x y H Q => ∃ p xs i v, x = .ref p ∧ y = .int i ∧ SqL K H p xs ∧ atI xs i = some v ∧ Q v H
def rIxT (K : PySem.W.Frag) : R2 := fun x y H Q => ∃ p xs i v, x = .ref p ∧ y = .int i ∧ SqT K H p xs ∧ atI xs i = some v ∧ Q v H
def rIxS : R2 := fun x y H Q => ∃ z i c, x = .str z ∧ y = .int i ∧ z.length ≤ sizeLine ∧ atI z.cps.toList i = some c ∧ Q (.str ⟨#[c]⟩) H
theorem ix_list : IxR X (rIxL X.K) := by
  intro value slice pins s σ H x y v u Q I rx ry h hs
  obtain ⟨p, xs, i, z, rfl, rfl, hq, he, q⟩ := h
  cases rx
  obtain ⟨t, rfl⟩ := ry
  obtain ⟨its, r, pl, hz⟩ := I.list hq
  obtain ⟨j, h1, h2, h3, h4, h5⟩ := atI_get he
  obtain ⟨w, ew, rw'⟩ := r.get h2
  have hl := r.length
  have hn := line63
  have fin : EP X pins σ Q w s := ⟨z, H, I, rw', q⟩
  by_cases h0 : 0 ≤ i
  · have hj : i.toNat = j := by
      rw [seqIndex_of h0 h5] at h1
      exact Option.some.inj h1
    exact item_listR pl.isList h0 (by omega) (by rw [hj]; simpa using ew) fin hs
  · have hj : (i + (its.toArray.size : Int)).toNat = j := by
      rw [seqIndex_neg (by omega) h4] at h1
      rw [List.size_toArray, ← hl]
      exact Option.some.inj h1
    exact subscriptTail_builtinR (x := w) pl.isList.typeIs slot_list_getitem.lookup
      (wpAny_getItem_list_neg (Q := fun r s' => r = w ∧ EP X pins σ Q r s') pl.isList (by omega) (by rw [List.size_toArray] <;> omega) (by omega) (by rw [hj]; simpa using ew) ⟨rfl, fin⟩) hs
theorem ix_tup : IxR X (rIxT X.K) := by
  intro value slice pins s σ H x y v u Q I rx ry h hs
  obtain ⟨p, xs, i, z, rfl, rfl, hq, he, q⟩ := h
  cases rx
  obtain ⟨t, rfl⟩ := ry
  obtain ⟨its, r, pl, hz⟩ := I.tuple hq
  obtain ⟨j, h1, h2, h3, h4, h5⟩ := atI_get he
  obtain ⟨w, ew, rw'⟩ := r.get h2
  have hl := r.length
  have hn := line63
  have fin : EP X pins σ Q w s := ⟨z, H, I, rw', q⟩
  exact subscriptTail_builtinR (x := w) pl.typeIs slot_tuple_getitem.lookup
    (getItem_tuple (j := j) (Q := fun r s' => r = w ∧ EP X pins σ Q r s') pl (by omega) (by omega) (by rw [List.size_toArray, ← hl]; exact h1) (by simpa using ew) ⟨rfl, fin⟩) hs
theorem ix_str : IxR X rIxS := by
  intro value slice pins s σ H x y v u Q I rx ry h hs
  obtain ⟨z, i, c, rfl, rfl, hz, he, q⟩ := h
  obtain ⟨t, rfl⟩ := rx
  obtain ⟨t', rfl⟩ := ry
  obtain ⟨j, h1, h2, h3, h4, h5⟩ := atI_get he
  have hl : z.cps.toList.length = z.length := by simp [Str.length]
  rw [hl] at h1 h4 h5
  have hn := line63
  exact tail_any (typeIs_str s z t) slot_str_getitem.lookup (getItem_str (c := c) (by
    have e1 : decide (i < -(2 ^ 63 : Int)) = false := decide_eq_false (by omega)
    have e2 : decide (i ≥ 2 ^ 63) = false := decide_eq_false (by omega)
    rw [e1, e2, Bool.or_false]) (by rw [h1]; simpa using h2) ⟨.str ⟨#[c]⟩, H, I.tok _, ⟨_, rfl⟩, q⟩) hs
def rIx (K : PySem.W.Frag) : R2 := fun x y H Q => rIxL K x y H Q ∨ rIxT K x y H Q ∨ rIxS x y H Q
theorem ix_seq : IxR X (rIx X.K) := ix_list.or (ix_tup.or ix_str)
theorem Inv.lst {pins : List (Addr × Obj)} {σ : St} {H : Hp} {s : Shared} {p : Addr} {xs : List V} (I : Inv X pins σ H s) (h : H p = some (.lst xs)) :
    ∃ (its : List Value) (n : Nat), Vals xs its ∧ s.heap.get? p = some { cls := .type "list", data := .seq its.toArray n } ∧ xs.length ≤ sizeLine := by
  obtain ⟨z, its, n, r, e⟩ := I.hok p _ h
  exact ⟨its, n, r, e, z⟩
theorem call_len_seq : CallR X (.builtin "len") (fun xs H Q => ∃ p ys, xs = [.ref p] ∧ (SqL X.K H p ys ∨ SqT X.K H p ys) ∧ Q (.int ys.length) H) := by
  intro pins s σ H xs us Q I r h
  obtain ⟨p, ys, rfl, hq, q⟩ := h
  obtain ⟨u, rfl, rx⟩ := vals1 r
  cases rx
  have hn := line63
  rcases hq with hq | hq
  · obtain ⟨its, r', pl, hz⟩ := I.list hq
    have hlen := r'.length
    exact Calls.call_len_list pl.isList (by simp only [List.size_toArray] <;> omega) ⟨.int ys.length, H, I.tok _, ⟨s.toks + 1, by rw [List.size_toArray, hlen]⟩, q⟩
  · obtain ⟨its, r', pl, hz⟩ := I.tuple hq
    have hlen := r'.length
    exact len_tuple pl (by simp only [List.size_toArray] <;> omega) ⟨.int ys.length, H, I.tok _, ⟨s.toks + 1, by rw [List.size_toArray, hlen]⟩, q⟩
theorem call_len_str : CallR X (.builtin "len") (fun xs H Q => ∃ z, xs = [.str z] ∧ z.length ≤ sizeLine ∧ Q (.int z.length) H) := by
  intro pins s σ H xs us Q I r h
  obtain ⟨z, rfl, hz, q⟩ := h
  obtain ⟨u, rfl, t, rfl⟩ := vals1 r
  have hn := line63
  exact len_str (by omega) ⟨.int z.length, H, I.tok _, ⟨_, rfl⟩, q⟩
theorem CallR.or {f : Value} {r r' : List V → Hp → VK → Prop} (h : CallR X f r) (h' : CallR X f r') : CallR X f (fun xs H Q => r xs H Q ∨ r' xs H Q) := by
  intro pins s σ H xs us Q I rs q
  rcases q with q | q
  · exact h pins s σ H xs us Q I rs q
  · exact h' pins s σ H xs us Q I rs q
def tyV (K : PySem.W.Frag) (T : String) (x : V) (H : Hp) : Prop := match x with
  | .str _ => T = "str"
  | .int _ => T = "int"
  | .ref p => (T = "list" ∧ ∃ xs, SqL K H p xs) ∨ (T = "tuple" ∧ ∃ o, K.lookup p = some o ∧ o.cls = .type "tuple" ∧ o.dict = none) ∨
      (T = "dict" ∧ ((∃ kvs, H p = some (.dK kvs)) ∨ ∃ kvs, H p = some (.dT kvs))) ∨ (T = "set" ∧ ∃ S n, H p = some (.set S n))
  | _ => False
theorem tyV_is {pins : List (Addr × Obj)} {σ : St} {H : Hp} {s : Shared} {T : String} {x : V} {v : Value} (I : Inv X pins σ H s) (r : RelV x v) (ty : tyV X.K T x H) :
    s.TypeIs v T ∧ ∀ a, v = .ref a → ∃ ob, s.heap.get? a = some ob ∧ ob.dict = none := by
  cases x with
  | str z =>
    obtain ⟨t, rfl⟩ := r
    cases (show T = "str" from ty)
    exact ⟨typeIs_str s z t, fun _ e => nomatch e⟩
  | int i =>
    obtain ⟨t, rfl⟩ := r
    cases (show T = "int" from ty)
    exact ⟨typeIs_int s i t, fun _ e => nomatch e⟩
  | ref p =>
    cases r
    rcases ty with ⟨rfl, xs, hq⟩ | ⟨rfl, o, hk, hc, hd⟩ | ⟨rfl, hk⟩ | ⟨rfl, S, n, hk⟩
    · obtain ⟨its, _, pl, _⟩ := I.list hq
      refine ⟨pl.isList.typeIs, fun a e => ?_⟩
      cases e
      obtain ⟨o, n, e, c, hd, _⟩ := pl
      exact ⟨o, e, hd⟩
    · refine ⟨⟨o, I.kIn p o hk, hc⟩, fun a e => ?_⟩
      cases e
      exact ⟨o, I.kIn _ o hk, hd⟩
    · have z : ∃ o, s.heap.get? p = some o ∧ o.ExactDict := by
        rcases hk with ⟨kvs, hk⟩ | ⟨kvs, hk⟩
        · obtain ⟨_, _, _, _, o, _, _, e, ex, _⟩ := I.hok p _ hk
          exact ⟨o, e, ex⟩
        · obtain ⟨_, _, _, _, o, _, _, e, ex, _⟩ := I.hok p _ hk
          exact ⟨o, e, ex⟩
      obtain ⟨o, e, ex⟩ := z
      refine ⟨⟨o, e, ex.1⟩, fun a e2 => ?_⟩
      cases e2
      exact ⟨o, e, ex.2.1⟩
    · obtain ⟨o, _, _, _, e, ex, _⟩ := I.hok p _ hk
      refine ⟨⟨o, e, ex.1⟩, fun a e2 => ?_⟩
      cases e2
      exact ⟨o, e, ex.2.1⟩
  | _ => exact False.elim ty
def tBM0 (K : PySem.W.Frag) (T : String) (r : V → List V → Hp → VK → Prop) (to : TE) : TE := fun σ H Q => to σ H fun x H1 => tyV K T x H1 ∧ r x [] H1 Q
variable {o e : Expr} {es : List Expr} {to : TE} {t : TA} {name : Str} {apos cpos : Pos} {T id : String} {r : V → List V → Hp → VK → Prop}
theorem pe_bm0 (pa : PlainAttrs T) (slot : Slot T name id) (hty : typeOf (.builtin id) = pure (.type "method_descriptor")) (hm : MtR X id r) (ho : PE X o to)
    (hbase : attributeBase o name X.env (eval o X.env) = eval o X.env := by rfl) (hline : (apos.endLine == cpos.line) = true := by rfl) : PE X (.Call (.Attribute o name apos) [] [] cpos) (tBM0 X.K T r to) := by
  intro pins s σ H Q I h
  refine wpAny_Call_method0_late hbase hline (thn (ho pins s σ H _ I h) fun v s1 ⟨x, H1, I1, r1, ty, q1⟩ => ?_)
  obtain ⟨h1, h2⟩ := tyV_is I1 r1 ty
  exact ⟨T, id, pa, slot, hty, h1, h2, Calls.callWith_builtin rfl (PySem.evalArgs_none (hm pins s1 σ H1 x [] v [] Q I1 r1 .nil q1))⟩
/- xs.append(e), list.index on a module's tuple .. are MtR facts of 06m -/
end
end L2
namespace L2
open PySem PySem.Spec PyProof.Rows
theorem Vals.one : ∀ {x : V} {us : List Value}, Vals [x] us → ∃ u, us = [u] ∧ RelV x u
  | _, _, .cons r .nil => ⟨_, rfl, r⟩
theorem Vals.zero : ∀ {us : List Value}, Vals [] us → us = []
  | _, .nil => rfl
theorem Vals.dropLast {xs : List V} {us : List Value} (h : Vals xs us) : Vals xs.dropLast us.dropLast := by
  induction h with
  | nil => exact .nil
  | cons r t ih =>
    cases t with
    | nil => exact .nil
    | cons q t' => exact .cons r ih
theorem Vals.reverse {xs : List V} {us : List Value} (h : Vals xs us) : Vals xs.reverse us.reverse := by
  induction h with
  | nil => exact .nil
  | cons r t ih => rw [List.reverse_cons, List.reverse_cons]; exact Vals.append ih (.cons r .nil)
section
variable {X : Cx} {pins : List (Addr × Obj)} {σ : St} {H : Hp} {s : Shared} {l b : Addr} {xs ys zs : List V}
theorem Inv.lnew {its : List Value} {t' : Nat} (I : Inv X pins σ H s) (hv : Vals ys its) (hz : ys.length ≤ sizeLine) :
    Inv X pins σ (upd H s.heap.objs.size (.lst ys)) { s with heap := s.heap.push { cls := .type "list", data := .seq its.toArray }, toks := t' } :=
  I.laid (fun _ _ q => Heap.get?_push_of_some _ q) (Nat.le_refl _) ⟨hz, its, 0, hv, Heap.get?_push_size _ rfl⟩
theorem Inv.fresh (I : Inv X pins σ H s) : H s.heap.objs.size = none := I.hok.fresh (Nat.le_refl _)
end
section
variable {X : Cx}
end
section
variable {prog : Program} {w : World} {A : Around} {E : Value → Shared → Prop} {s : Shared}
end
section
variable {X : Cx}
end
end L2
namespace Att
open PySem PySem.W PySem.Calls PyProof.Rows
theorem ints_of_wellAll {P : Params} {h : Heap} : ∀ (ns : List Int) (vs : List Value), WellAll P h vs (ns.map WData.int) → IntsAre vs ns := by
  intro ns
  induction ns with
  | nil =>
    intro vs w
    rw [List.map_nil] at w
    cases w
    exact .nil
  | cons n ns ih =>
    intro vs w
    rw [List.map_cons] at w
    cases w with
    | cons a b =>
      cases a
      exact .cons _ _ (ih _ b)
theorem script_of {l : OpenLaw} {n : Nat} (hn : l.most = some n) {P : Params} {h : Heap} {args : List WData} {vals : List Value}
    (hpre : l.row.toRowW.claim.pre args = true) (hwl : WellAll P h vals args) :
    ∃ a vs ns, vals = [Value.ref a] ∧ args = [WData.list (ns.map WData.int)] ∧ h.get? a = some { cls := .type "list", data := .seq vs.toArray } ∧ IntsAre vs ns ∧ ns.length ≤ n := by
  have hsh : WShape.hasAll [] args [.list .int] = true := (pre_splitW hpre).1
  have hc : l.pre.holds [] { args := args } = true := (pre_splitW hpre).2
  obtain ⟨d, r, rfl, h1, h2⟩ := hasAllW_cons hsh
  obtain rfl := hasAllW_nil h2
  obtain ⟨xs, rfl, h3⟩ := hasW_list h1
  obtain ⟨ns, rfl⟩ := items_int h3
  have hlen : ns.length ≤ n := by
    unfold OpenLaw.pre at hc
    have h4 : (WTm.not (.lt (.lit (.int (n : Int))) (.len (.arg 0)))).holds [] { args := [.list (ns.map .int)] } = true := by
      have h4 := (holds_andW hc).1
      rw [hn] at h4
      exact h4
    have h5 := condW_of h4 (w_not (w_lt w_lit (w_len_list (w_arg rfl))))
    rw [List.length_map] at h5
    refine Nat.le_of_not_lt fun q => ?_
    have q' : (n : Int) < ((ns.length : Nat) : Int) := by omega
    first
      | (rw [decide_eq_true q'] at h5; exact absurd h5 (by decide))
      | (simp at h5; omega)
  cases hwl with
  | cons w1 w2 =>
    cases w2
    cases w1 with
    | list ho hall => exact ⟨_, _, ns, rfl, rfl, ho, ints_of_wellAll ns _ hall, hlen⟩
theorem post_true (l : OpenLaw) (args : List WData) : l.row.toRowW.claim.post args (.bool true) args = true :=
  postW_of (r := l.row.toRowW) (X := (true == true))
    (show WShape.has [] (.bool true) .bool = true by first | rfl | decide | simp [WShape.has, WShape.arms, WShape.armsAll])
    (show (WTm.eq .res (.lit (.bool true))).value [] { args := args, res := some (.bool true), after := args } = some (.bool (true == true)) from w_eq_bool (w_res rfl) w_lit) rfl
theorem attach_call {l : OpenLaw} {n : Nat} {q : Program} {loose : List Str} {XP : (Str → Option Value) → Heap → Prop} {YP : World → Heap → Prop} {d : DefRec}
    (hn : l.most = some n) (hdf : d.params.defaults = [])
    (call : ∀ (w : World) (s₀ s₁ : Shared) (mg mb : Str → Option Value) (fa : Addr) (o : Obj) (pm cd doc : Value) (a : Addr) (vs : List Value) (ns : List Int),
      Ground q loose [] XP w s₀ mg mb s₁.heap → YP w s₁.heap →
      s₁.heap.get? fa = some o → o.data = .func (docDef d.name d.params d.body d.scope pm cd doc) → s₁.heap.CodeRec cd d.name → mg d.name = some (.ref fa) →
      s₁.heap.get? a = some { cls := .type "list", data := .seq vs.toArray } → IntsAre vs ns → ns.length ≤ n → s₁.gens = #[] →
      codeAny (model l.prog w) callerA (.call (.ref fa) ⟨[.ref a], []⟩) (fun r s' => r = .ok (.ret (.bool true)) ∧ OldK s₁.heap s'.heap ∧ s'.os = s₁.os ∧ AllBare s'.gens) s₁) :
    WalkO q loose XP YP l.row.toRowW d [] (fun f vs => PySem.call f vs) := by
  intro w s₀ s₁ mg mb G Y fa o pm cd doc dV kV ho hd hcd hD hmg hg args vals as hpre hlay hrd hwl hlo
  obtain rfl : dV = .none := Dflts.none hD hdf
  obtain rfl : kV = .none := Dflts.noKw hD
  obtain ⟨a, vs, ns, rfl, rfl, hobj, hints, hlen⟩ := script_of hn hpre hwl
  refine enter_call (codeAny_mono (call w s₀ s₁ mg mb fa o pm cd doc a vs ns G Y ho (fd_plain hd) hcd hmg hobj hints hlen hg) fun r s' hq => ?_)
  obtain ⟨rfl, h2, h3, h4⟩ := hq
  exact ⟨.inl ⟨.bool true, .bool true, [], rfl, fun _ => rfl, .bool true, post_true l _, fun _ => ⟨List.Pairwise.nil, fun _ hm => (nomatch hm)⟩⟩, h2, h3, h4⟩
section
variable {prog : Program} {w : World} {A : Around} {E : Value → Shared → Prop} {s : Shared} {K : Frag}
end
end Att
namespace L2
open PySem PySem.Spec PyProof.Rows
theorem vals_ints : ∀ {vs : List Value} {ns : List Int}, IntsAre vs ns → Vals (ns.map V.int) vs
  | _, _, .nil => .nil
  | _, _, .cons n t h => .cons ⟨t, rfl⟩ (vals_ints h)
def LsD (K : PySem.W.Frag) (H : Hp) (a : Addr) (xs : List V) : Prop :=
  Rd H a (.lst xs) ∨ ∃ (its : List Value) (n : Nat), K.lookup a = some { cls := .type "list", data := .seq its.toArray n } ∧ its.length ≤ sizeLine ∧ Vals xs its
end L2
namespace L2
open PySem PySem.Spec PyProof.Rows
end L2
namespace L2
open PySem PySem.Spec PyProof.Rows
def defArgs (s : Stmt) : Arguments := match s with
  | .FunctionDef _ a _ _ _ _ _ _ _ _ => a
  | _ => { posonlyargs := [], args := [], vararg := none, kwonlyargs := [], kw_defaults := [], kwarg := none, defaults := [] }
def defBody (s : Stmt) : List Stmt := match s with
  | .FunctionDef _ _ b _ _ _ _ _ _ _ => b
  | _ => []
def defScope (s : Stmt) : Scope := match s with
  | .FunctionDef _ _ _ _ _ _ sc _ _ _ => sc
  | _ => { kind := .function, names := [], isGenerator := false, isCoroutine := false }
abbrev CX0 : CXT := fun _ _ _ _ _ _ => False
abbrev E0 : XK := fun _ _ _ => False
theorem pass0 {X : Cx} : Passes CX0 X E0 := fun _ _ _ _ _ _ _ h => h.elim
structure Fun (K : PySem.W.Frag) (x qual : Str) (st : Stmt) (f : Addr) (fd : FuncData) : Prop where
  ex : ∃ (oc : Value) (od : Option Addr) (kV doc pm : Value) (an : Option Addr) (cdv ct : Value) (osl : Array (Option Value)),
    fd = PySem.W.fnOf x qual (defArgs st) (defBody st) (defScope st) .none kV doc pm an cdv ct ∧ K.lookup f = some ⟨oc, od, .func fd, osl⟩ ∧ PySem.W.codeIn K cdv qual = true
  kp : PySem.W.keepIn K (.ref f) = true
section
variable {P : Program} {w : World} {K : PySem.W.Frag} {mg : Str → Option Value} {base : Heap}
theorem Fun.ok {x qual : Str} {st : Stmt} {f : Addr} {fd : FuncData} {N ps : List Str} {k : Nat} {sp : Sp} (F : Fun K x qual st f fd) (S : FnScope N ps (defScope st)) (len : ∀ vs H Q E, sp vs H Q E → vs.length = ps.length)
    (hbody : ∀ (cdv : Value) (A : Around) (outer : List Env) (s : Shared) (H : Hp) (vs : List V) (Q : VK) (E : XK), Room k (A.deeper (envOfC qual (defScope st) s.heap.objs.size f cdv)) → sp vs H Q E →
      ∃ t, PSs (cxOf CX0 P w K mg base N qual (defScope st) f cdv A outer s H E).nox (defBody st) t ∧ t { nx := fun _ H' => Q .non H', rt := Q } (start N vs) H) : FnOk P w K mg base CX0 (k + 1) f fd ps sp := by
  obtain ⟨oc, od, kV, doc, pm, an, cdv, ct, osl, rfl, lk, hcd⟩ := F.ex
  refine fn_of lk hcd S len fun A outer s H vs Q E hr hsp => ?_
  obtain ⟨t, h, q⟩ := hbody cdv A outer s H vs Q E hr hsp
  exact ⟨t, h.nox, q⟩
theorem Fun.binds {x qual : Str} {st : Stmt} {f : Addr} {fd : FuncData} {ps : List Str} (F : Fun K x qual st f fd)
    (h : ∀ (kV doc pm : Value) (an : Option Addr) (cdv ct : Value) (us : List Value), us.length = ps.length → bindArgs (PySem.W.fnOf x qual (defArgs st) (defBody st) (defScope st) .none kV doc pm an cdv ct) ⟨us, []⟩ = pure (ps.zip us)) : Binds K fd ps [] := by
  obtain ⟨oc, od, kV, doc, pm, an, cdv, ct, osl, rfl, lk, hcd⟩ := F.ex
  exact .all (h kV doc pm an cdv ct)
theorem fun_mk {x qual : Str} {st : Stmt} {f : Addr} {oc : Value} {od an : Option Addr} {osl : Array (Option Value)} {kV doc pm cdv ct : Value} (l : K.lookup f = some ⟨oc, od, .func (PySem.W.fnOf x qual (defArgs st) (defBody st) (defScope st) .none kV doc pm an cdv ct), osl⟩)
    (c : PySem.W.codeIn K cdv qual = true) (k : PySem.W.keepIn K (.ref f) = true) : Fun K x qual st f (PySem.W.fnOf x qual (defArgs st) (defBody st) (defScope st) .none kV doc pm an cdv ct) := ⟨⟨oc, od, kV, doc, pm, an, cdv, ct, osl, rfl, l, c⟩, k⟩
end
section
variable {X : Cx}
theorem pv (i : Nat) {x : Str} {pos : Pos} (hN : X.N[i]? = some x := by rfl) (hv : Vis X.env.scope x := by first | exact Or.inl rfl | exact Or.inr (Or.inl rfl) | exact Or.inr (Or.inr rfl)) (hd : (x == ("__debug__" : Str)) = false := by decide)
    (hcd : (x == ("__classdict__" : Str)) = false := by decide) : PE X (.Name x pos) (tVar i) := pe_var hN hv hd hcd
end
def Same (H H' : Hp) : Prop := ∀ b o, H b = some o → H' b = some o
theorem Same.refl (H : Hp) : Same H H := fun _ _ h => h
theorem Same.trans {H H1 H2 : Hp} (a : Same H H1) (b : Same H1 H2) : Same H H2 := fun c o h => b c o (a c o h)
theorem Same.free {H H' : Hp} (e : Same H H') {l : Addr} (h : H' l = Option.none) : H l = Option.none := by
  cases q : H l with
  | none => rfl
  | some o =>
    rw [e l o q] at h
    cases h
theorem Same.seq {K : PySem.W.Frag} {H H' : Hp} {a : Addr} {xs : List V} (e : Same H H') (h : SqL K H a xs) : SqL K H' a xs := by
  rcases h with (h | ⟨o, h⟩) | h
  · exact .inl (.inl (e _ _ h))
  · exact .inl (.inr ⟨o, e _ _ h⟩)
  · exact .inr h
end L2
namespace L2
open PySem PySem.Spec PyProof.Rows
section
variable {κ : Type} [DecidableEq κ]
def valV (kvs : List (κ × V)) (k : κ) : Option V := (kvs.find? fun kv => decide (kv.1 = k)).map (·.2)
def putK (kvs : List (κ × V)) (k : κ) (v : V) : List (κ × V) :=
  if (kvs.any fun kv => decide (kv.1 = k)) = true then kvs.map (fun kv => if kv.1 = k then (kv.1, v) else kv) else kvs ++ [(k, v)]
theorem valV_pos {p : κ × V} {r : List (κ × V)} {k : κ} (e : p.1 = k) : valV (p :: r) k = some p.2 := by simp [valV, List.find?_cons, e]
theorem valV_neg {p : κ × V} {r : List (κ × V)} {k : κ} (e : ¬ p.1 = k) : valV (p :: r) k = valV r k := by simp [valV, List.find?_cons, e]
theorem RelO.getD {o : Option V} {u : Option Value} {d : V} {d' : Value} (r : RelO o u) (rd : RelV d d') : RelV (o.getD d) (u.getD d') := by
  cases o with
  | none => cases u with
    | none => exact rd
    | some _ => exact (show False from r).elim
  | some _ => cases u with
    | none => exact (show False from r).elim
    | some _ => exact r
theorem KV.any {kvs : List (κ × V)} {vs : List (κ × Value)} (r : KV kvs vs) (k : κ) : (kvs.any fun kv => decide (kv.1 = k)) = vs.any fun kv => decide (kv.1 = k) := by
  unfold KV at r
  induction r with
  | nil => rfl
  | cons h t ih => rw [List.any_cons, List.any_cons, ih, h.1]
theorem KV.length {kvs : List (κ × V)} {vs : List (κ × Value)} (r : KV kvs vs) : kvs.length = vs.length := Paired.length r
end
abbrev KT (H : Hp) : List (List Key × V) → List (List Key × Addr × Value) → Prop := Paired fun p q => p.1 = q.1 ∧ TupT H q.2.1 (p.1.map kV) ∧ RelV p.2 q.2.2
theorem KT.keeps {H H' : Hp} {kvs : List (List Key × V)} {xs : List (List Key × Addr × Value)} (r : KT H kvs xs) (ht : ∀ b ys, TupT H b ys → TupT H' b ys) : KT H' kvs xs :=
  Paired.mapP r fun _ _ z => ⟨z.1, ht _ _ z.2.1, z.2.2⟩
section
variable {P : Program} {w : World} {H : Hp} {h : Heap} {a : Addr}
end
def DGet (H : Hp) (a : Addr) (y : V) (r : Option V) : Prop :=
  (∃ kvs k, Rd H a (.dK kvs) ∧ y = kV k ∧ r = valV kvs k) ∨ ∃ kvs k b, Rd H a (.dT kvs) ∧ y = .ref b ∧ TupT H b (k.map kV) ∧ r = valV kvs k
def DPut (H : Hp) (a : Addr) (y v : V) (H' : Hp) : Prop :=
  (∃ kvs k, H a = some (.dK kvs) ∧ y = kV k ∧ kvs.length < sizeLine ∧ H' = upd H a (.dK (putK kvs k v))) ∨
  ∃ kvs k b, H a = some (.dT kvs) ∧ y = .ref b ∧ TupT H b (k.map kV) ∧ kvs.length < sizeLine ∧ H' = upd H a (.dT (putK kvs k v))
theorem DGet.k {H : Hp} {a : Addr} {kvs : List (Key × V)} {k : Key} (e : H a = some (.dK kvs)) : DGet H a (kV k) (valV kvs k) := .inl ⟨kvs, k, .inl e, rfl, rfl⟩
theorem DGet.t {H : Hp} {a b : Addr} {kvs : List (List Key × V)} {k : List Key} (e : H a = some (.dT kvs)) (eb : TupT H b (k.map kV)) : DGet H a (.ref b) (valV kvs k) := .inr ⟨kvs, k, b, .inl e, rfl, eb, rfl⟩
theorem DPut.k {H : Hp} {a : Addr} {kvs : List (Key × V)} {k : Key} {v : V} (e : H a = some (.dK kvs)) (hl : kvs.length < sizeLine) : DPut H a (kV k) v (upd H a (.dK (putK kvs k v))) := .inl ⟨kvs, k, e, rfl, hl, rfl⟩
theorem DPut.t {H : Hp} {a b : Addr} {kvs : List (List Key × V)} {k : List Key} {v : V} (e : H a = some (.dT kvs)) (eb : TupT H b (k.map kV)) (hl : kvs.length < sizeLine) :
    DPut H a (.ref b) v (upd H a (.dT (putK kvs k v))) := .inr ⟨kvs, k, b, e, rfl, eb, hl, rfl⟩
section
variable {X : Cx} {pins : List (Addr × Obj)} {σ : St} {H : Hp} {s : Shared} {a : Addr} {y v : V} {u r : Value} {o : Option V} {A : Around} {E : Value → Shared → Prop}
end
section
variable {X : Cx} {pins : List (Addr × Obj)} {σ : St} {H : Hp} {s : Shared} {a : Addr} {kvs : List (Key × V)} {k : Key} {u : Value} {A : Around} {E : Value → Shared → Prop}
end
section
variable {X : Cx} {o i e value : Expr} {pos pos' tpos : Pos} {td ty tv : TE}
end
section
variable {X : Cx} {pos : Pos}
end
structure M1 (X : Cx) (o : Expr) (m : Str) (apos : Pos) (e : Expr) (cpos : Pos) : Prop where
  base : attributeBase o m X.env (eval o X.env) = eval o X.env
  few : ((backTo cpos (starEach [e] X.env)).all (fun x => !x.1) && (backToKw cpos (keywordEach [] X.env)).all (fun x => x.1.isSome)
    && decide (([e] : List Expr).length + ([] : List Keyword).length + (if ([] : List Keyword).isEmpty then 0 else 1) < 30)) = true
  line : (apos.endLine == cpos.line) = true
  trees : backTo cpos (starEach [e] X.env) = [(false, eval e X.env)]
structure M2 (X : Cx) (o : Expr) (m : Str) (apos : Pos) (e f : Expr) (cpos : Pos) : Prop where
  base : attributeBase o m X.env (eval o X.env) = eval o X.env
  few : ((backTo cpos (starEach [e, f] X.env)).all (fun x => !x.1) && (backToKw cpos (keywordEach [] X.env)).all (fun x => x.1.isSome)
    && decide (([e, f] : List Expr).length + ([] : List Keyword).length + (if ([] : List Keyword).isEmpty then 0 else 1) < 30)) = true
  line : (apos.endLine == cpos.line) = true
  trees : backTo cpos (starEach [e, f] X.env) = [(false, eval e X.env), (false, eval f X.env)]
section
variable {X : Cx} {pins : List (Addr × Obj)} {σ : St} {H : Hp} {s : Shared} {a : Addr} {y d : V} {u r : Value} {o : Option V} {A : Around} {E : Value → Shared → Prop}
end
section
variable {X : Cx} {o e f : Expr} {apos cpos : Pos} {td ty tx : TE}
end
end L2
set_option maxHeartbeats 4000000
namespace L2
open PySem PySem.Spec PyProof.Rows
section
variable {X : Cx}
theorem op_mulB : OpR X (binaryOp .Mult) (rI IntMulOk fun i j => .int (i * j)) := opI fun _ _ _ _ _ _ _ hc q => mul_int q hc
def CDivS (i j : Int) : Prop := j ≠ 0 ∧ Builtin.divisionGoesByPylong i j = false
theorem op_fdivS : OpR X (binaryOp .FloorDiv) (rI CDivS fun i j => .int (i.fdiv j)) := opI fun _ _ _ _ _ _ _ hc q => floordiv_int hc.1 q (.inl hc.2)
theorem nopy_bits {i j : Int} (h : Builtin.Int.intBits j ≤ 9000) : Builtin.divisionGoesByPylong i j = false := by
  refine PyProof.noPylong_of_log2 ?_
  unfold Builtin.Int.intBits at h
  by_cases hj : j = 0
  · subst hj; decide +kernel
  · rw [if_neg (by simpa using hj)] at h
    omega
theorem mul_left {i j : Int} (h1 : -(2 ^ 64) < i) (h2 : i < 2 ^ 64) : IntMulOk i j := .of_left (intBits_le_64 h1 h2)
def TyW (K : PySem.W.Frag) (H : Hp) (x : V) (t : String) : Prop :=
  TyOf K H x (.type t) ∨ (∃ a xs, x = .ref a ∧ SqT K H a xs ∧ t = "tuple") ∨ (∃ a xs, x = .ref a ∧ SqL K H a xs ∧ t = "list")
def rIsi (K : PySem.W.Frag) : List V → Hp → VK → Prop := fun xs H Q => ∃ x n t b, xs = [x, .ty n] ∧ TyW K H x t ∧ PySem.W.kitOne K (.type t) (.type n) = some b ∧ Q (.bl b) H
theorem call_isi : CallR X (.builtin "isinstance") (rIsi X.K) := by
  intro pins s σ H xs us Q I r h
  obtain ⟨x, n, t, b, rfl, ty, e, q⟩ := h
  obtain ⟨u1, u2, rfl, r1, r2⟩ : ∃ u1 u2, us = [u1, u2] ∧ RelV x u1 ∧ RelV (.ty n) u2 := by
    cases r with
    | cons p q => cases q with
      | cons p' q' => cases q'; exact ⟨_, _, rfl, p, p'⟩
  cases (show u2 = Value.type n from r2)
  have fin : ∀ tk, EP X pins σ Q (.bool b) { s with toks := tk } := fun tk => ⟨.bl b, H, I.tok _, rfl, q⟩
  rcases ty with ty | ⟨a, ys, rfl, hq, rfl⟩ | ⟨a, ys, rfl, hq, rfl⟩
  · exact isinst_ok I r1 ty e fin
  · cases (show u1 = Value.ref a from r1)
    obtain ⟨its, _, p, _⟩ := I.tuple hq
    obtain ⟨o, h1, h2, _⟩ := p
    exact PySem.W.kia_one PySem.W.kitx_tuple I.kIn ⟨o, h1, h2⟩ e (fun z => nomatch z) fin
  · cases (show u1 = Value.ref a from r1)
    obtain ⟨its, _, p, _⟩ := I.list hq
    obtain ⟨o, n, h1, h2, _⟩ := p
    exact PySem.W.kia_one PySem.W.kitx_list I.kIn ⟨o, h1, h2⟩ e (fun z => nomatch z) fin
theorem kit_same {K : PySem.W.Frag} {t : String} : PySem.W.kitOne K (.type t) (.type t) = some true := by
  unfold PySem.W.kitOne
  rw [if_pos (by simp)]
def Dn (P : Program) (w : World) (K : PySem.W.Frag) (mg : Str → Option Value) (base : Heap) (k : Nat) (x : Str) (ps : List Str) (sp : Sp) : Prop :=
  ∃ f fd, FnOk P w K mg base CX0 k f fd ps sp ∧ mg x = some (.ref f) ∧ PySem.W.keepIn K (.ref f) = true ∧ Binds K fd ps []
theorem pe_fn {k kk : Nat} {x : Str} {ps : List Str} {sp : Sp} {e : Expr} {es : List Expr} {t : TA} {p pos : Pos} (D : Dn X.prog X.w X.K X.mg X.base k x ps sp) (hr : Room kk X.A) (hk : k ≤ kk) (ha : PA X (e :: es) t) (hg : Gl X x := by rfl)
    (hdb : (x == ("__debug__" : Str)) = false := by decide) (he : starEach (e :: es) X.env = (false, eval e X.env) :: starEach es X.env := by rfl) (hpl : (backTo pos (starEach es X.env)).any (·.1) = false := by rfl) :
    PE X (.Call (.Name x p) (e :: es) [] pos) (tCall sp [] E0 t) := by
  obtain ⟨f, fd, F, m, kp, b⟩ := D
  exact pe_call F (hr.mono hk) hg m kp b .nil pass0 ha hdb he hpl
structure Bs (mg : Str → Option Value) : Prop where
  len : mg "len" = none
  range : mg "range" = none
  isinstance : mg "isinstance" = none
  max : mg "max" = none
  min : mg "min" = none
  int : mg "int" = none
  bool : mg "bool" = none
  tuple : mg "tuple" = none
  list : mg "list" = none
  abs : mg "abs" = none
  str : mg "str" = none
  sum : mg "sum" = none
  sorted : mg "sorted" = none
  reversed : mg "reversed" = none
  enumerate : mg "enumerate" = none
  set : mg "set" = none
  all : mg "all" = none
  zip : mg "zip" = none
  any : mg "any" = none
def Df (K : PySem.W.Frag) (mg : Str → Option Value) (x : Str) (st : Stmt) (ps : List Str) : Prop := ∃ f fd, Fun K x x st f fd ∧ mg x = some (.ref f) ∧ Binds K fd ps []
theorem Df.ok {P : Program} {w : World} {K : PySem.W.Frag} {mg : Str → Option Value} {base : Heap} {x : Str} {st : Stmt} {N ps : List Str} {k : Nat} {sp : Sp} (F : Df K mg x st ps) (S : FnScope N ps (defScope st)) (len : ∀ vs H Q E, sp vs H Q E → vs.length = ps.length)
    (hbody : ∀ (f : Addr) (cdv : Value) (A : Around) (outer : List Env) (s : Shared) (H : Hp) (vs : List V) (Q : VK) (E : XK), Room k (A.deeper (envOfC x (defScope st) s.heap.objs.size f cdv)) → sp vs H Q E →
      ∃ t, PSs (cxOf CX0 P w K mg base N x (defScope st) f cdv A outer s H E).nox (defBody st) t ∧ t { nx := fun _ H' => Q .non H', rt := Q } (start N vs) H) : Dn P w K mg base (k + 1) x ps sp := by
  obtain ⟨f, fd, F, m, b⟩ := F
  exact ⟨f, fd, F.ok S len (hbody f), m, F.kp, b⟩
def Cn (mg : Str → Option Value) (x : Str) (v : V) : Prop := ∃ u, mg x = some u ∧ RelV v u
theorem pe_cn {x : Str} {v : V} {pos : Pos} (c : Cn X.mg x v) (hg : Gl X x := by rfl) (hd : (x == ("__debug__" : Str)) = false := by decide) : PE X (.Name x pos) (tC v) := by
  obtain ⟨u, m, r⟩ := c
  exact pe_glob hg m r hd
end
theorem same_new {H : Hp} {p : Addr} (h : H p = none) (o : HO) : Same H (upd H p o) := fun b u q => by rw [upd_ne (ne_of_none q h)]; exact q
theorem Same.tup {K : PySem.W.Frag} {H H' : Hp} {a : Addr} {xs : List V} (e : Same H H') (h : SqT K H a xs) : SqT K H' a xs := by
  rcases h with (h | ⟨o, h⟩) | h
  · exact .inl (.inl (e _ _ h))
  · exact .inl (.inr ⟨o, e _ _ h⟩)
  · exact .inr h
theorem small {n : Nat} (h : n ≤ 100000) : n ≤ sizeLine := Nat.le_trans h (by decide)
end L2
namespace L2
open PySem PySem.Spec PyProof.Rows
section
variable {X : Cx}
def rBits : V → List V → Hp → VK → Prop := fun x vs H Q => ∃ i : Int, x = .int i ∧ vs = [] ∧ Q (.int (Builtin.Int.intBits i : Nat)) H
theorem mt_bits : MtR X "int.bit_length" rBits := by
  intro pins s σ H x vs v us Q I rx rv h
  obtain ⟨i, rfl, rfl, q⟩ := h
  obtain ⟨t, rfl⟩ := rx
  cases rv
  exact call_int_bit_length ⟨.int _, H, I.tok _, ⟨_, rfl⟩, q⟩
theorem pe_bits {o : Expr} {to : TE} {apos cpos : Pos} (ho : PE X o to) (hbase : attributeBase o "bit_length" X.env (eval o X.env) = eval o X.env := by rfl) (hline : (apos.endLine == cpos.line) = true := by rfl) :
    PE X (.Call (.Attribute o "bit_length" apos) [] [] cpos) (tBM0 X.K "int" rBits to) := pe_bm0 PySem.F.plainAttrs_int PySem.F.slot_int_bit_length PySem.F.type_int_bit_length mt_bits ho hbase hline
end
theorem Same.upd {H H' : Hp} {l : Addr} (s : Same H H') (h : H l = none) (o : HO) : Same H (upd H' l o) := fun b u q => by rw [upd_ne (ne_of_none q h)]; exact s b u q
end L2
namespace L2
open PySem PySem.Spec PyProof.Rows
theorem bt_int : bootBuiltins "int" = some (.type "int") := by decide +kernel
theorem bt_bool : bootBuiltins "bool" = some (.type "bool") := by decide +kernel
theorem bt_tuple : bootBuiltins "tuple" = some (.type "tuple") := by decide +kernel
theorem bt_len : bootBuiltins "len" = some (.builtin "len") := by decide +kernel
theorem bt_abs : bootBuiltins "abs" = some (.builtin "abs") := by decide +kernel
theorem bt_max : bootBuiltins "max" = some (.builtin "max") := by decide +kernel
theorem bt_min : bootBuiltins "min" = some (.builtin "min") := by decide +kernel
theorem bt_isinstance : bootBuiltins "isinstance" = some (.builtin "isinstance") := by decide +kernel
section
variable {X : Cx}
end
end L2
namespace L2
open PySem PySem.Spec PyProof.Rows
section
variable {X : Cx}
end
end L2
namespace L2
open PySem PySem.Spec PyProof.Rows
section
variable {X : Cx}
structure CompSc (X : Cx) (scope : Scope) (x : Str) (ix : List Nat) (N' : List Str) : Prop where
  kind : scope.kind = .function
  nocell : ∀ y ∈ scope.names, y.2 ≠ .cell
  names : ∀ y ∈ scope.names, y.2 = .local → scope.names.lookup y.1 = some .local
  own : scope.names.lookup x = some .local
  free : ∀ y ∈ scope.names, y.2 = .free → X.env.kindOf y.1 = some .cell ∨ X.env.kindOf y.1 = some .free
  only : ∀ n, (X.env.scope.kind = .function) → ((relabel scope X.env).names.lookup n = some .cell ∨ (relabel scope X.env).names.lookup n = some .free) → (n, NameKind.free) ∈ scope.names
  nm : N' = x :: ix.map fun j => X.N.getD j ""
  ixs : ∀ j ∈ ix, j < X.N.length ∧ (X.N.getD j "", NameKind.free) ∈ scope.names ∧ ((relabel scope X.env).names.lookup (X.N.getD j "") = some .cell ∨ (relabel scope X.env).names.lookup (X.N.getD j "") = some .free)
section
variable {scope : Scope} {x : Str} {ix : List Nat} {N' : List Str} {cl : List (Str × Addr)} {C : Addr} {s2 s3 : Shared} {H2 : Hp} {fp : List Addr} {pins : List (Addr × Obj)} {σ : St}
end
section
variable {scope : Scope} {x : Str} {ix : List Nat} {N' : List Str} {elt iter : Expr} {px pos : Pos} {wi : TI} {te : TE}
end
section
variable {scope : Scope} {x : Str} {elt iter : Expr} {px pos : Pos} {wi : TI} {te : TE}
end
end
end L2
namespace L2
open PySem PySem.Spec PyProof.Rows
mutual
inductive IsD (K : PySem.W.Frag) (H : Hp) : V → PyData → Prop
  | non : IsD K H .non .none
  | int (i : Int) : IsD K H (.int i) (.int i)
  | str (x : Str) : IsD K H (.str x) (.str x)
  | lst {a : Addr} {xs : List V} {ds : List PyData} : SqL K H a xs → IsDs K H xs ds → IsD K H (.ref a) (.list ds)
  | tup {a : Addr} {xs : List V} {ds : List PyData} : SqT K H a xs → IsDs K H xs ds → IsD K H (.ref a) (.tuple ds)
inductive IsDs (K : PySem.W.Frag) (H : Hp) : List V → List PyData → Prop
  | nil : IsDs K H [] []
  | cons {x : V} {xs : List V} {d : PyData} {ds : List PyData} : IsD K H x d → IsDs K H xs ds → IsDs K H (x :: xs) (d :: ds)
end
section
variable {X : Cx} {pins : List (Addr × Obj)} {σ : St} {H : Hp} {s : Shared}
mutual
theorem IsD.reads (I : Inv X pins σ H s) : ∀ {x : V} {d : PyData} {u : Value}, IsD X.K H x d → RelV x u → ∃ as, Reads s.heap u d as
  | _, _, _, .non, r => by cases (show _ = Value.none from r); exact ⟨_, .none⟩
  | _, _, _, .int i, r => by obtain ⟨t, rfl⟩ := r; exact ⟨_, .int i t⟩
  | _, _, _, .str x, r => by obtain ⟨t, rfl⟩ := r; exact ⟨_, .str x t⟩
  | _, _, _, .lst (a := a) hq h, r => by
    cases (show _ = Value.ref a from r)
    obtain ⟨its, rv, ⟨o, n, h1, h2, _, h3⟩, _⟩ := I.list hq
    obtain ⟨as, q⟩ := IsDs.reads I h rv
    exact ⟨_, .list h1 h2 h3 (by simpa using q)⟩
  | _, _, _, .tup (a := a) hq h, r => by
    cases (show _ = Value.ref a from r)
    obtain ⟨its, rv, ⟨o, h1, h2, n, h3⟩, _⟩ := I.tuple hq
    obtain ⟨as, q⟩ := IsDs.reads I h rv
    exact ⟨_, .tuple h1 h2 h3 (by simpa using q)⟩
theorem IsDs.reads (I : Inv X pins σ H s) : ∀ {xs : List V} {ds : List PyData} {us : List Value}, IsDs X.K H xs ds → Vals xs us → ∃ as, ReadsAll s.heap us ds as
  | _, _, _, .nil, .nil => ⟨_, .nil⟩
  | _, _, _, .cons h hs, .cons r rs => by
    obtain ⟨as, q⟩ := IsD.reads I h r
    obtain ⟨bs, qs⟩ := IsDs.reads I hs rs
    exact ⟨_, .cons q qs⟩
end
end
section
variable {X : Cx}
end
mutual
theorem IsD.same {K : PySem.W.Frag} {H H' : Hp} (e : Same H H') : ∀ {x : V} {d : PyData}, IsD K H x d → IsD K H' x d
  | _, _, .non => .non
  | _, _, .int i => .int i
  | _, _, .str x => .str x
  | _, _, .lst hq h => .lst (e.seq hq) (IsDs.same e h)
  | _, _, .tup hq h => .tup (e.tup hq) (IsDs.same e h)
theorem IsDs.same {K : PySem.W.Frag} {H H' : Hp} (e : Same H H') : ∀ {xs : List V} {ds : List PyData}, IsDs K H xs ds → IsDs K H' xs ds
  | _, _, .nil => .nil
  | _, _, .cons h hs => .cons (IsD.same e h) (IsDs.same e hs)
end
abbrev Fr2 := Int × Int
def dF (q : Fr2) : PyData := .tuple [.int q.1, .int q.2]
def dP (l : List Fr2) : PyData := .list (l.map dF)
def FV (K : PySem.W.Frag) (H : Hp) (x : V) (q : Fr2) : Prop := ∃ p, x = .ref p ∧ SqT K H p [.int q.1, .int q.2]
theorem FV.same {K : PySem.W.Frag} {H H' : Hp} (e : Same H H') {x : V} {q : Fr2} (h : FV K H x q) : FV K H' x q := let ⟨p, a, b⟩ := h; ⟨p, a, e.tup b⟩
theorem FV.isD {K : PySem.W.Frag} {H : Hp} {x : V} {q : Fr2} (h : FV K H x q) : IsD K H x (dF q) := by
  obtain ⟨p, rfl, b⟩ := h
  exact .tup b (.cons (.int _) (.cons (.int _) .nil))
abbrev FVs (K : PySem.W.Frag) (H : Hp) : List V → List Fr2 → Prop := Paired (FV K H)
theorem FVs.same {K : PySem.W.Frag} {H H' : Hp} (e : Same H H') {xs : List V} {l : List Fr2} (h : FVs K H xs l) : FVs K H' xs l := Paired.mapP h fun _ _ => FV.same e
theorem FVs.isDs {K : PySem.W.Frag} {H : Hp} : ∀ {xs : List V} {l : List Fr2}, FVs K H xs l → IsDs K H xs (l.map dF)
  | _, _, .nil => .nil
  | _, _, .cons h hs => .cons h.isD (FVs.isDs hs)
theorem FVs.len {K : PySem.W.Frag} {H : Hp} {xs : List V} {l : List Fr2} (h : FVs K H xs l) : xs.length = l.length := Paired.length h
theorem Paired.get {α β : Type} {F : α → β → Prop} : ∀ {xs : List α} {ys : List β} {i : Nat} {y : β}, Paired F xs ys → ys[i]? = some y → ∃ x, xs[i]? = some x ∧ F x y
  | _, _, _, _, .nil, e => by simp at e
  | _, _, 0, _, .cons r _, e => by simp at e; subst e; exact ⟨_, rfl, r⟩
  | _, _, i + 1, y, .cons _ t, e => by
    obtain ⟨u, h1, h2⟩ := Paired.get (i := i) (y := y) t (by simpa using e)
    exact ⟨u, by simpa using h1, h2⟩
theorem Paired.app {α β : Type} {F : α → β → Prop} : ∀ {xs xs' : List α} {ys ys' : List β}, Paired F xs ys → Paired F xs' ys' → Paired F (xs ++ xs') (ys ++ ys')
  | _, _, _, _, .nil, s => s
  | _, _, _, _, .cons r t, s => .cons r (Paired.app t s)
theorem Paired.dropLast {α β : Type} {F : α → β → Prop} : ∀ {xs : List α} {ys : List β}, Paired F xs ys → Paired F xs.dropLast ys.dropLast
  | _, _, .nil => .nil
  | _, _, .cons _ .nil => .nil
  | _, _, .cons r (.cons r' t) => .cons r (Paired.dropLast (.cons r' t))
def PL (K : PySem.W.Frag) (H : Hp) (p : Addr) (l : List Fr2) : Prop := ∃ xs, SqL K H p xs ∧ FVs K H xs l
theorem PL.same {K : PySem.W.Frag} {H H' : Hp} (e : Same H H') {p : Addr} {l : List Fr2} (h : PL K H p l) : PL K H' p l := let ⟨xs, a, b⟩ := h; ⟨xs, e.seq a, FVs.same e b⟩
theorem PL.isD {K : PySem.W.Frag} {H : Hp} {p : Addr} {l : List Fr2} (h : PL K H p l) : IsD K H (.ref p) (dP l) := let ⟨_, a, b⟩ := h; .lst a b.isDs
end L2
namespace L2
open PySem PySem.Spec PyProof.Rows
abbrev D := PyData
abbrev DS := List (Option D)
def cstTab : List (Addr × List V) := [(115, [.int (0), .int (1)]), (116, [.int (1), .int (1)])]
theorem Same.tupT {H H' : Hp} {a : Addr} {xs : List V} (s : Same H H') (h : TupT H a xs) : TupT H' a xs := by
  rcases h with h | ⟨ob, h⟩
  · exact .inl (s _ _ h)
  · exact .inr ⟨ob, s _ _ h⟩
def wo (H : Hp) (A : List Addr) : Hp := fun a => if a ∈ A then none else H a
section
variable {K : PySem.W.Frag} {H H' : Hp} {A A' : List Addr} {a l p r : Addr} {o : HO}
theorem wo_out (h : a ∉ A) : wo H A a = H a := by unfold wo; rw [if_neg h]
theorem wo_in (h : a ∈ A) : wo H A a = none := by unfold wo; rw [if_pos h]
theorem wo_some (h : wo H A a = some o) : a ∉ A ∧ H a = some o := by
  unfold wo at h
  split at h
  · cases h
  · exact ⟨by assumption, h⟩
theorem wo_same : Same (wo H A) H := fun _ _ h => (wo_some h).2
theorem wo_mono (s : Same H H') : Same (wo H A) (wo H' A) := fun b u h => by
  obtain ⟨h1, h2⟩ := wo_some h
  rw [wo_out h1]; exact s b u h2
theorem wo_sub (h : ∀ a ∈ A', a ∈ A) : Same (wo H A) (wo H A') := fun b u q => by
  obtain ⟨h1, h2⟩ := wo_some q
  rw [wo_out fun z => h1 (h b z)]; exact h2
theorem wo_nil : wo H [] = H := by funext a; exact wo_out (by simp)
theorem wo_new (h : p ∉ A) : wo (upd H p o) A = upd (wo H A) p o := by
  funext a
  by_cases e : a = p
  · subst e; rw [wo_out h, upd_same, upd_same]
  · rw [upd_ne e]
    by_cases z : a ∈ A
    · rw [wo_in z, wo_in z]
    · rw [wo_out z, wo_out z, upd_ne e]
def OwnO : HO → Prop
  | .lst _ => True
  | .dT _ => True
  | _ => False
def Ls (A : List Addr) (H : Hp) : Prop := (∀ a ∈ A, ∃ o, H a = some o ∧ OwnO o) ∧ ∀ p xs, (p, xs) ∈ cstTab → TupT H p xs
theorem Ls.same (h : Ls A H) (s : Same H H') : Ls A H' := ⟨fun a ha => let ⟨o, e, q⟩ := h.1 a ha; ⟨o, s _ _ e, q⟩, fun p xs m => s.tupT (h.2 p xs m)⟩
theorem TupT.apart {xs : List V} (t : TupT H p xs) (e : H l = some o) (w : OwnO o) : p ≠ l := fun z => by
  subst z
  rcases t with t | ⟨ob, t⟩ <;> rw [e] at t <;> cases t <;> exact w
theorem TupT.wo {xs : List V} (t : TupT H p xs) (n : p ∉ A) : TupT (L2.wo H A) p xs := by
  rcases t with t | ⟨ob, t⟩
  · exact .inl (by rw [wo_out n]; exact t)
  · exact .inr ⟨ob, by rw [wo_out n]; exact t⟩
theorem Ls.free (h : Ls A H) (n : H p = none) : p ∉ A := fun z => by
  obtain ⟨ys, e, _⟩ := h.1 p z
  rw [n] at e; cases e
end
def keyD : Key → D := Sum.elim .int .str
mutual
inductive HD (K : PySem.W.Frag) (H : Hp) : V → D → Prop
  | non : HD K H .non .none
  | bl (b : Bool) : HD K H (.bl b) (.bool b)
  | int (i : Int) : HD K H (.int i) (.int i)
  | str (x : Str) : HD K H (.str x) (.str x)
  | lst {a : Addr} {xs : List V} {ds : List D} : LsD K H a xs → HDs K H xs ds → HD K H (.ref a) (.list ds)
  | tup {a : Addr} {xs : List V} {ds : List D} : TupT H a xs → HDs K H xs ds → HD K H (.ref a) (.tuple ds)
  | dct {a : Addr} {kvs : List (List Key × V)} {kds : List (D × D)} : H a = some (.dT kvs) → kds.map (·.1) = kvs.map (fun p => PyData.tuple (p.1.map keyD)) → HDs K H (kvs.map (·.2)) (kds.map (·.2)) → HD K H (.ref a) (.dict kds)
inductive HDs (K : PySem.W.Frag) (H : Hp) : List V → List D → Prop
  | nil : HDs K H [] []
  | cons {x : V} {xs : List V} {d : D} {ds : List D} : HD K H x d → HDs K H xs ds → HDs K H (x :: xs) (d :: ds)
end
theorem Same.rd {H H' : Hp} {a : Addr} {u : HO} (s : Same H H') (h : Rd H a u) : Rd H' a u := by
  rcases h with h | ⟨o, h⟩
  · exact .inl (s _ _ h)
  · exact .inr ⟨o, s _ _ h⟩
theorem LsD.of {K : PySem.W.Frag} {H : Hp} {a : Addr} {xs : List V} (h : H a = some (.lst xs)) : LsD K H a xs := .inl (.inl h)
theorem LsD.sq {K : PySem.W.Frag} {H : Hp} {a : Addr} {xs : List V} (h : LsD K H a xs) : SqL K H a xs := by
  rcases h with h | ⟨its, n, h1, h2, h3⟩
  · exact .inl h
  · exact .inr ⟨_, its.toArray, n, h1, rfl, rfl, rfl, by rw [List.size_toArray]; exact h2, by simpa using h3⟩
theorem LsD.same {K : PySem.W.Frag} {H H' : Hp} {a : Addr} {xs : List V} (s : Same H H') (h : LsD K H a xs) : LsD K H' a xs := by
  rcases h with h | h
  · exact .inl (s.rd h)
  · exact .inr h
theorem Inv.lsd {X : Cx} {pins : List (Addr × Obj)} {σ : St} {H : Hp} {s : Shared} {a : Addr} {xs : List V} (I : Inv X pins σ H s) (h : LsD X.K H a xs) : xs.length ≤ sizeLine ∧ ∃ (its : List Value) (n : Nat), Vals xs its ∧ s.heap.get? a = some { cls := .type "list", data := .seq its.toArray n } := by
  rcases h with h | ⟨its, n, h1, h2, h3⟩
  · exact h.ok I.hok
  · exact ⟨by rw [h3.length]; exact h2, its, n, h3, I.kIn a _ h1⟩
mutual
theorem HD.same {K : PySem.W.Frag} {H H' : Hp} (e : Same H H') : ∀ {x : V} {d : D}, HD K H x d → HD K H' x d
  | _, _, .non => .non
  | _, _, .bl b => .bl b
  | _, _, .int i => .int i
  | _, _, .str x => .str x
  | _, _, .lst hq h => .lst (hq.same e) (HDs.same e h)
  | _, _, .tup hq h => .tup (e.tupT hq) (HDs.same e h)
  | _, _, .dct hq k h => .dct (e _ _ hq) k (HDs.same e h)
theorem HDs.same {K : PySem.W.Frag} {H H' : Hp} (e : Same H H') : ∀ {xs : List V} {ds : List D}, HDs K H xs ds → HDs K H' xs ds
  | _, _, .nil => .nil
  | _, _, .cons h hs => .cons (HD.same e h) (HDs.same e hs)
end
theorem HDs.keys {K : PySem.W.Frag} {H : Hp} : ∀ k : List Key, HDs K H (k.map kV) (k.map keyD)
  | [] => .nil
  | .inl i :: k => .cons (.int i) (HDs.keys k)
  | .inr x :: k => .cons (.str x) (HDs.keys k)
section
variable {X : Cx} {pins : List (Addr × Obj)} {σ : St} {H : Hp} {s : Shared}
theorem key_reads (I : Inv X pins σ H s) {us : List Value} : ∀ {k : List Key}, Vals (k.map kV) us → ∃ as, ReadsAll s.heap us (k.map keyD) as
  | [], r => by cases r; exact ⟨_, .nil⟩
  | .inl i :: k, r => by
    cases r with
    | cons a b =>
      obtain ⟨t, rfl⟩ := a
      obtain ⟨bs, q⟩ := key_reads I (k := k) b
      exact ⟨_, .cons (.int i t) q⟩
  | .inr x :: k, r => by
    cases r with
    | cons a b =>
      obtain ⟨t, rfl⟩ := a
      obtain ⟨bs, q⟩ := key_reads I (k := k) b
      exact ⟨_, .cons (.str x t) q⟩
theorem keys_read (I : Inv X pins σ H s) : ∀ {kvs : List (List Key × V)} {xs : List (List Key × Addr × Value)}, Paired (fun (p : List Key × V) (q : List Key × Addr × Value) => p.1 = q.1 ∧ TupT H q.2.1 (p.1.map kV) ∧ RelV p.2 q.2.2) kvs xs →
    (∃ as, ReadsAll s.heap (xs.map fun q => Value.ref q.2.1) (kvs.map fun p => PyData.tuple (p.1.map keyD)) as) ∧ Vals (kvs.map (·.2)) (xs.map fun q => q.2.2)
  | _, _, .nil => ⟨⟨_, .nil⟩, .nil⟩
  | _, _, .cons r t => by
    obtain ⟨⟨bs, q⟩, v⟩ := keys_read I t
    obtain ⟨_, its, rv, o, h1, h2, n, h3⟩ := (show ObjOk X.prog X.w H s.heap _ (.tup _) from Rd.ok r.2.1 I.hok)
    obtain ⟨as, q1⟩ := key_reads I rv
    exact ⟨⟨_, .cons (.tuple h1 h2 h3 (by simpa using q1)) q⟩, .cons r.2.2 v⟩
mutual
theorem HD.reads (I : Inv X pins σ H s) : ∀ {x : V} {d : D} {u : Value}, HD X.K H x d → RelV x u → ∃ as, Reads s.heap u d as
  | _, _, _, .non, r => by cases (show _ = Value.none from r); exact ⟨_, .none⟩
  | _, _, _, .bl b, r => by cases (show _ = Value.bool b from r); exact ⟨_, .bool b⟩
  | _, _, _, .int i, r => by obtain ⟨t, rfl⟩ := r; exact ⟨_, .int i t⟩
  | _, _, _, .str x, r => by obtain ⟨t, rfl⟩ := r; exact ⟨_, .str x t⟩
  | _, _, _, .lst (a := a) hq h, r => by
    cases (show _ = Value.ref a from r)
    obtain ⟨its, rv, ⟨o, n, h1, h2, _, h3⟩, _⟩ := I.list hq.sq
    obtain ⟨as, q⟩ := HDs.reads I h rv
    exact ⟨_, .list h1 h2 h3 (by simpa using q)⟩
  | _, _, _, .tup (a := a) hq h, r => by
    cases (show _ = Value.ref a from r)
    obtain ⟨its, rv, ⟨o, h1, h2, n, h3⟩, _⟩ := I.tuple (.inl hq)
    obtain ⟨as, q⟩ := HDs.reads I h rv
    exact ⟨_, .tuple h1 h2 h3 (by simpa using q)⟩
  | _, _, _, .dct (a := a) hq k h, r => by
    cases (show _ = Value.ref a from r)
    obtain ⟨_, _, xs, rel, o, es, ep, h1, h2, h3, h4, _⟩ := (show ObjOk X.prog X.w H s.heap a _ from I.hok a _ hq)
    obtain ⟨⟨as, q⟩, v⟩ := keys_read I rel
    obtain ⟨bs, q2⟩ := HDs.reads I h v
    refine ⟨_, .dict h1 h2.1 h3 (as := as) (bs := bs) ?_ ?_⟩
    · rw [h4, k, List.map_map]; exact q
    · rw [h4, List.map_map]; exact q2
theorem HDs.reads (I : Inv X pins σ H s) : ∀ {xs : List V} {ds : List D} {us : List Value}, HDs X.K H xs ds → Vals xs us → ∃ as, ReadsAll s.heap us ds as
  | _, _, _, .nil, .nil => ⟨_, .nil⟩
  | _, _, _, .cons h hs, .cons r rs => by
    obtain ⟨as, q⟩ := HD.reads I h r
    obtain ⟨bs, qs⟩ := HDs.reads I hs rs
    exact ⟨_, .cons q qs⟩
end
end
theorem HDs.len {K : PySem.W.Frag} {H : Hp} : ∀ {xs : List V} {ds : List D}, HDs K H xs ds → xs.length = ds.length
  | _, _, .nil => rfl
  | _, _, .cons _ t => by rw [List.length_cons, List.length_cons, HDs.len t]
theorem HDs.get {K : PySem.W.Frag} {H : Hp} : ∀ {xs : List V} {ds : List D} {i : Nat} {d : D}, HDs K H xs ds → ds[i]? = some d → ∃ x, xs[i]? = some x ∧ HD K H x d
  | _, _, _, _, .nil, e => by simp at e
  | _, _, 0, _, .cons r _, e => by simp at e; subst e; exact ⟨_, rfl, r⟩
  | _, _, i + 1, y, .cons _ t, e => by
    obtain ⟨u, h1, h2⟩ := HDs.get (i := i) (d := y) t (by simpa using e)
    exact ⟨u, by simpa using h1, h2⟩
theorem HDs.app {K : PySem.W.Frag} {H : Hp} : ∀ {xs xs' : List V} {ds ds' : List D}, HDs K H xs ds → HDs K H xs' ds' → HDs K H (xs ++ xs') (ds ++ ds')
  | _, _, _, _, .nil, s => s
  | _, _, _, _, .cons r t, s => .cons r (HDs.app t s)
theorem HDs.ints {K : PySem.W.Frag} {H : Hp} : ∀ ns : List Int, HDs K H (ns.map V.int) (ns.map PyData.int)
  | [] => .nil
  | n :: ns => .cons (.int n) (HDs.ints ns)
theorem tup_off {H : Hp} {A : List Addr} {a : Addr} {xs : List V} (h : TupT H a xs) (al : Ls A H) : TupT (wo H A) a xs := by
  rcases h with h | ⟨ob, h⟩
  · refine .inl ?_
    rw [wo_out fun z => ?_]; exact h
    obtain ⟨o, e, q⟩ := al.1 a z
    rw [h] at e; cases e; exact q
  · refine .inr ⟨ob, ?_⟩
    rw [wo_out fun z => ?_]; exact h
    obtain ⟨o, e, q⟩ := al.1 a z
    rw [h] at e; cases e; exact q
mutual
def noL : D → Bool
  | .list _ => false
  | .dict _ => false
  | .tuple ds => noLs ds
  | _ => true
def noLs : List D → Bool
  | [] => true
  | d :: ds => noL d && noLs ds
end
inductive OwO (K : PySem.W.Frag) (H : Hp) : HO → D → Prop
  | lst {ys : List V} {ds : List D} : HDs K H ys ds → OwO K H (.lst ys) (.list ds)
  | dct {kvs : List (List Key × V)} {kds : List (D × D)} : kds.map (·.1) = kvs.map (fun p => PyData.tuple (p.1.map keyD)) → HDs K H (kvs.map (·.2)) (kds.map (·.2)) → OwO K H (.dT kvs) (.dict kds)
theorem OwO.same {K : PySem.W.Frag} {H H' : Hp} {o : HO} {d : D} (s : Same H H') (h : OwO K H o d) : OwO K H' o d := by
  cases h with
  | lst q => exact .lst (q.same s)
  | dct k q => exact .dct k (q.same s)
theorem OwO.own {K : PySem.W.Frag} {H : Hp} {o : HO} {d : D} (h : OwO K H o d) : OwnO o := by cases h <;> trivial
theorem OwO.hd {K : PySem.W.Frag} {H : Hp} {o : HO} {d : D} {l : Addr} (h : OwO K H o d) (e : H l = some o) : HD K H (.ref l) d := by
  cases h with
  | lst q => exact .lst (.of e) q
  | dct k q => exact .dct e k q
def ShD (K : PySem.W.Frag) (A : List Addr) (H : Hp) (v : V) (d : D) : Prop := HD K (wo H A) v d ∨ ∃ l o, v = .ref l ∧ H l = some o ∧ OwO K (wo H A) o d
section
variable {K : PySem.W.Frag} {H H' : Hp} {A A' : List Addr} {v : V} {d : D}
theorem ShD.of (h : HD K (wo H A) v d) : ShD K A H v d := .inl h
theorem ShD.same (s : Same H H') (h : ShD K A H v d) : ShD K A H' v d := by
  rcases h with h | ⟨l, o, rfl, e, q⟩
  · exact .inl (h.same (wo_mono s))
  · exact .inr ⟨l, o, rfl, s _ _ e, q.same (wo_mono s)⟩
theorem ShD.isD (h : ShD K A H v d) : HD K H v d := by
  rcases h with h | ⟨l, o, rfl, e, q⟩
  · exact h.same wo_same
  · exact (q.same wo_same).hd e
theorem ShD.list {ds : List D} (h : ShD K A H v (.list ds)) : ∃ l ys, v = .ref l ∧ LsD K H l ys ∧ HDs K (wo H A) ys ds := by
  rcases h with h | ⟨l, o, rfl, e, q⟩
  · cases h with
    | lst hq h => exact ⟨_, _, rfl, hq.same wo_same, h⟩
  · cases q with
    | lst q => exact ⟨l, _, rfl, .of e, q⟩
theorem ShD.tupH {ds : List D} (h : ShD K A H v (.tuple ds)) : ∃ l ys, v = .ref l ∧ TupT H l ys ∧ HDs K (wo H A) ys ds := by
  rcases h with h | ⟨l, o, rfl, e, q⟩
  · cases h with
    | tup hq h => exact ⟨_, _, rfl, wo_same.tupT hq, h⟩
  · cases q
theorem ShD.tuple {ds : List D} (h : ShD K A H v (.tuple ds)) : ∃ l ys, v = .ref l ∧ SqT K H l ys ∧ HDs K (wo H A) ys ds :=
  let ⟨l, ys, a, b, c⟩ := h.tupH; ⟨l, ys, a, .inl b, c⟩
theorem ShD.dict {kds : List (D × D)} (h : ShD K A H v (.dict kds)) : ∃ l kvs, v = .ref l ∧ H l = some (.dT kvs) ∧ kds.map (·.1) = kvs.map (fun p => PyData.tuple (p.1.map keyD)) ∧ HDs K (wo H A) (kvs.map (·.2)) (kds.map (·.2)) := by
  rcases h with h | ⟨l, o, rfl, e, q⟩
  · cases h with
    | dct hq k h => exact ⟨_, _, rfl, wo_same _ _ hq, k, h⟩
  · cases q with
    | dct k q => exact ⟨l, _, rfl, e, k, q⟩
theorem ShD.fz {ds : List D} (h : ShD K A H v (.tuple ds)) : HD K (wo H A) v (.tuple ds) := by
  rcases h with h | ⟨l, o, rfl, e, q⟩
  · exact h
  · cases q
theorem ShD.int {i : Int} (h : ShD K A H v (.int i)) : v = .int i := by
  rcases h with h | ⟨l, o, rfl, e, q⟩
  · cases h; rfl
  · cases q
theorem ShD.bool {b : Bool} (h : ShD K A H v (.bool b)) : v = .bl b := by
  rcases h with h | ⟨l, o, rfl, e, q⟩
  · cases h; rfl
  · cases q
theorem ShD.str {b : Str} (h : ShD K A H v (.str b)) : v = .str b := by
  rcases h with h | ⟨l, o, rfl, e, q⟩
  · cases h; rfl
  · cases q
theorem ShD.non (h : ShD K A H v .none) : v = .non := by
  rcases h with h | ⟨l, o, rfl, e, q⟩
  · cases h; rfl
  · cases q
end
structure Rel (K : PySem.W.Frag) (O : List Nat) (U A0 : List Addr) (σ : St) (δ : DS) (H : Hp) : Prop where
  len : σ.length = δ.length
  fz : ∀ (i : Nat) d, i ∉ O → δ[i]? = some (some d) → ∃ v, σ[i]? = some (some v) ∧ HD K (wo H (U ++ A0)) v d
  ow : ∀ (i : Nat) d, i ∈ O → δ[i]? = some (some d) → ∃ l o, σ[i]? = some (some (.ref l)) ∧ l ∈ U ∧ H l = some o ∧ OwO K (wo H (U ++ A0)) o d
  inj : ∀ (i j : Nat) d e l, i ∈ O → j ∈ O → i ≠ j → δ[i]? = some (some d) → δ[j]? = some (some e) → σ[i]? = some (some (.ref l)) → σ[j]? = some (some (.ref l)) → False
  al : Ls (U ++ A0) H
section
variable {K : PySem.W.Frag} {O : List Nat} {U A0 : List Addr} {σ : St} {δ : DS} {H H' : Hp}
theorem Rel.same (R : Rel K O U A0 σ δ H) (s : Same H H') : Rel K O U A0 σ δ H' where
  len := R.len
  fz := fun i d hi e => let ⟨v, a, b⟩ := R.fz i d hi e; ⟨v, a, b.same (wo_mono s)⟩
  ow := fun i d hi e => let ⟨l, o, a, c, f, g⟩ := R.ow i d hi e; ⟨l, o, a, c, s _ _ f, g.same (wo_mono s)⟩
  inj := R.inj
  al := R.al.same s
theorem Rel.at (R : Rel K O U A0 σ δ H) {i : Nat} {d : D} (e : δ[i]? = some (some d)) : ∃ v, σ[i]? = some (some v) ∧ ShD K (U ++ A0) H v d := by
  by_cases hi : i ∈ O
  · obtain ⟨l, o, a, c, f, g⟩ := R.ow i d hi e
    exact ⟨_, a, .inr ⟨l, o, rfl, f, g⟩⟩
  · obtain ⟨v, a, b⟩ := R.fz i d hi e
    exact ⟨v, a, .inl b⟩
theorem Rel.set (R : Rel K O U A0 σ δ H) {i : Nat} {v : V} {d : D} (hi : i ∉ O) (h : HD K (wo H (U ++ A0)) v d) : Rel K O U A0 (σ.set i (some v)) (δ.set i (some d)) H where
  len := by rw [List.length_set, List.length_set]; exact R.len
  fz := fun j e hj q => by
    by_cases hij : i = j
    · subst hij
      have hl : i < δ.length := by have := (List.getElem?_eq_some_iff.mp q).1; rwa [List.length_set] at this
      rw [List.getElem?_set_self hl] at q
      cases q
      exact ⟨v, List.getElem?_set_self (by rw [R.len]; exact hl), h⟩
    · rw [List.getElem?_set_ne hij] at q ⊢
      exact R.fz j e hj q
  ow := fun j e hj q => by
    have hij : i ≠ j := fun z => hi (z ▸ hj)
    rw [List.getElem?_set_ne hij] at q ⊢
    exact R.ow j e hj q
  inj := fun j k d e l hj hk hjk q1 q2 e1 e2 => by
    have hij : i ≠ j := fun z => hi (z ▸ hj)
    have hik : i ≠ k := fun z => hi (z ▸ hk)
    rw [List.getElem?_set_ne hij] at q1 e1
    rw [List.getElem?_set_ne hik] at q2 e2
    exact R.inj j k d e l hj hk hjk q1 q2 e1 e2
  al := R.al
end
structure Fx (H0 : Hp) (A0 U : List Addr) (H : Hp) : Prop where
  same : Same H0 H
  new : ∀ a ∈ U, H0 a = none
  old : Ls A0 H0
section
variable {K : PySem.W.Frag} {O : List Nat} {U U' A0 : List Addr} {σ : St} {δ : DS} {H0 H H' : Hp}
theorem Fx.grow (F : Fx H0 A0 U H) (s : Same H H') : Fx H0 A0 U H' := ⟨F.same.trans s, F.new, F.old⟩
theorem Fx.more (F : Fx H0 A0 U H) (s : Same H H') {r : Addr} (hr : H r = none) : Fx H0 A0 (r :: U) H' := ⟨F.same.trans s, fun a ha => by
  rcases List.mem_cons.mp ha with z | z
  · subst z; exact F.same.free hr
  · exact F.new a z, F.old⟩
theorem Fx.out (F : Fx H0 A0 U H) {l : Addr} (hl : l ∈ U) : l ∉ A0 := fun z => by
  obtain ⟨ys, e, _⟩ := F.old.1 l z
  rw [F.new l hl] at e; cases e
theorem Fx.here (F : Fx H0 A0 U H) : Fx (wo H U) A0 U H := ⟨wo_same, fun _ h => wo_in h, fun a ha => by
  obtain ⟨ys, e, q⟩ := F.old.1 a ha
  refine ⟨ys, ?_, q⟩
  rw [wo_out fun z => ?_]
  · exact F.same _ _ e
  · exact F.out z ha, fun p xs m => (F.same.tupT (F.old.2 p xs m)).wo fun z => by
  rcases F.old.2 p xs m with t | ⟨ob, t⟩ <;> rw [F.new p z] at t <;> cases t⟩
theorem Fx.trans (F : Fx H0 A0 U H) (G : Fx (wo H U) A0 U' H') : Fx H0 A0 U' H' := by
  have k : ∀ a o, H0 a = some o → wo H U a = some o := fun a o e => by
    rw [wo_out fun z => ?_]
    · exact F.same _ _ e
    · rw [F.new a z] at e; cases e
  refine ⟨fun a o e => G.same _ _ (k a o e), fun a ha => ?_, F.old⟩
  cases e : H0 a with
  | none => rfl
  | some o =>
    have := G.new a ha
    rw [k a o e] at this; cases this
theorem Fx.keeps (G : Fx (wo H U) A0 U' H') : Same (wo H (U ++ A0)) (wo H' (U' ++ A0)) := fun b o e => by
  obtain ⟨h1, h2⟩ := wo_some e
  simp only [List.mem_append, not_or] at h1
  have h3 : wo H U b = some o := by rw [wo_out h1.1]; exact h2
  rw [wo_out]
  · exact G.same _ _ h3
  · simp only [List.mem_append, not_or]
    refine ⟨fun z => ?_, h1.2⟩
    rw [G.new b z] at h3; cases h3
end
def tE (K : PySem.W.Frag) (O : List Nat) (g : DS → Option D) : TE := fun σ H Q => ∃ U A0 δ d, Rel K O U A0 σ δ H ∧ g δ = some d ∧ ∀ v H', Same H H' → HD K (wo H' (U ++ A0)) v d → Q v H'
def tSh (K : PySem.W.Frag) (O : List Nat) (g : DS → Option D) : TE := fun σ H Q => ∃ U A0 δ d, Rel K O U A0 σ δ H ∧ g δ = some d ∧ ∀ v H', Same H H' → ShD K (U ++ A0) H' v d → Q v H'
def tT (K : PySem.W.Frag) (O : List Nat) (g : DS → Option Bool) : TT := fun σ H Q => ∃ U A0 δ b, Rel K O U A0 σ δ H ∧ g δ = some b ∧ ∀ H', Same H H' → Q b H'
def tAs (K : PySem.W.Frag) (O : List Nat) (g : DS → Option (List D)) : TA := fun σ H Q => ∃ U A0 δ ds, Rel K O U A0 σ δ H ∧ g δ = some ds ∧ ∀ vs H', Same H H' → HDs K (wo H' (U ++ A0)) vs ds → Q vs H'
def ShDs (K : PySem.W.Frag) (A : List Addr) (H : Hp) : List V → List D → Prop := Paired (ShD K A H)
def tAsh (K : PySem.W.Frag) (O : List Nat) (g : DS → Option (List D)) : TA := fun σ H Q => ∃ U A0 δ ds, Rel K O U A0 σ δ H ∧ g δ = some ds ∧ ∀ vs H', Same H H' → ShDs K (U ++ A0) H' vs ds → Q vs H'
theorem ShDs.same {K : PySem.W.Frag} {A : List Addr} {H H' : Hp} (s : Same H H') {vs : List V} {ds : List D} (h : ShDs K A H vs ds) : ShDs K A H' vs ds := Paired.mapP h fun _ _ => ShD.same s
inductive Res where
  | nx (δ : DS) | rt (d : D) | bk (δ : DS) | ct (δ : DS)
def RetR (K : PySem.W.Frag) (fr : Bool) (H0 : Hp) (A0 : List Addr) (v : V) (d : D) (H' : Hp) : Prop :=
  if fr = true then ∃ r o, v = .ref r ∧ Same H0 H' ∧ H0 r = none ∧ H' r = some o ∧ OwO K (wo H' (r :: A0)) o d else Same H0 H' ∧ HD K (wo H' A0) v d
def Post (K : PySem.W.Frag) (O : List Nat) (fr : Bool) (H0 : Hp) (A0 : List Addr) (E : Ends) : Res → Prop
  | .nx δ => ∀ U σ H, Rel K O U A0 σ δ H → Fx H0 A0 U H → E.nx σ H
  | .bk δ => ∀ U σ H, Rel K O U A0 σ δ H → Fx H0 A0 U H → E.bk σ H
  | .ct δ => ∀ U σ H, Rel K O U A0 σ δ H → Fx H0 A0 U H → E.ct σ H
  | .rt d => ∀ v H, RetR K fr H0 A0 v d H → E.rt v H
def tS (K : PySem.W.Frag) (O : List Nat) (fr : Bool) (g : DS → Option Res) : TS := fun E σ H => ∃ H0 U A0 δ r, Rel K O U A0 σ δ H ∧ Fx H0 A0 U H ∧ g δ = some r ∧ Post K O fr H0 A0 E r
def Walks (K : PySem.W.Frag) (A : List Addr) (H1 : Hp) (J : It) (ds : List D) : Prop := ∀ (A' : List Addr) (i : Nat) (H : Hp), Same (wo H1 A) (wo H A') → Ls A' H →
  (∀ d, ds[i]? = some d → J.go i H ∧ ∀ x H2, J.yld i H x H2 → Same H H2 ∧ HD K (wo H2 A') x d) ∧ (i = ds.length → J.stop i H)
def tI (K : PySem.W.Frag) (O : List Nat) (g : DS → Option (List D)) : TI := fun σ H R => ∃ U A0 δ ds, Rel K O U A0 σ δ H ∧ g δ = some ds ∧ ∀ J H1, Same H H1 → Walks K (U ++ A0) H1 J ds → R J H1
def tG (K : PySem.W.Frag) (O : List Nat) (g : D → DS → Option DS) : TG := fun v σ H Q => ∃ U A0 δ d δ', Rel K O U A0 σ δ H ∧ HD K (wo H (U ++ A0)) v d ∧ g d δ = some δ' ∧ ∀ σ', Rel K O U A0 σ' δ' H → Q σ' H
end L2
namespace L2
open PySem PySem.Spec PyProof.Rows
section
variable {X : Cx}
theorem PE.mono {e : Expr} {t t' : TE} (h : PE X e t) (m : ∀ σ H Q, t' σ H Q → t σ H Q) : PE X e t' := fun pins s σ H Q I q => h pins s σ H Q I (m σ H Q q)
theorem PT.mono {e : Expr} {t t' : TT} (h : PT X e t) (m : ∀ σ H Q, t' σ H Q → t σ H Q) : PT X e t' := fun pins s σ H Q I q => h pins s σ H Q I (m σ H Q q)
theorem PW.mono {e : Expr} {t t' : TT} (h : PW X e t) (m : ∀ σ H Q, t' σ H Q → t σ H Q) : PW X e t' := fun w pins s σ H Q I q => h w pins s σ H Q I (m σ H Q q)
theorem PA.mono {e : List Expr} {t t' : TA} (h : PA X e t) (m : ∀ σ H Q, t' σ H Q → t σ H Q) : PA X e t' := fun pos pins s σ H Q I q => h pos pins s σ H Q I (m σ H Q q)
theorem PS.mono {e : Stmt} {t t' : TS} (h : PS X e t) (m : ∀ E σ H, t' E σ H → t E σ H) : PS X e t' := fun pins s σ H E I q => h pins s σ H E I (m E σ H q)
theorem PSs.mono {e : List Stmt} {t t' : TS} (h : PSs X e t) (m : ∀ E σ H, t' E σ H → t E σ H) : PSs X e t' := fun pins s σ H E I q => h pins s σ H E I (m E σ H q)
theorem PI.mono {tg e : Expr} {t t' : TI} (h : PI X tg e t) (m : ∀ σ H R, t' σ H R → t σ H R) : PI X tg e t' := fun pins s σ H R I q => h pins s σ H R I (m σ H R q)
theorem PG.mono {e : Expr} {t t' : TG} (h : PG X e t) (m : ∀ v σ H Q, t' v σ H Q → t v σ H Q) : PG X e t' := fun pins s σ H v u Q I r q => h pins s σ H v u Q I r (m v σ H Q q)
theorem PO.mono {e : Option Expr} {t t' : TO} (h : PO X e t) (m : ∀ σ H Q, t' σ H Q → t σ H Q) : PO X e t' := fun pins s σ H Q I q => h pins s σ H Q I (m σ H Q q)
end
def gVar (i : Nat) : DS → Option D := fun δ => (δ[i]?).join
def gC (d : D) : DS → Option D := fun _ => some d
def gLst (g : DS → Option (List D)) : DS → Option D := fun δ => (g δ).map .list
theorem join_some {α : Type} {o : Option (Option α)} {d : α} (h : o.join = some d) : o = some (some d) := by
  cases o with
  | none => cases h
  | some p => cases p with
    | none => cases h
    | some q => cases h; rfl
section
variable {X : Cx} {O : List Nat} {e : Expr} {g : DS → Option D}
theorem pd_var {i : Nat} (h : PE X e (tVar i)) (hi : i ∉ O := by decide) : PE X e (tE X.K O (gVar i)) := h.mono fun σ H Q ⟨U, A0, δ, d, R, ed, q⟩ => by
  obtain ⟨v, hv, hd⟩ := R.fz i d hi (join_some ed)
  exact ⟨v, hv, q v H (Same.refl H) hd⟩
theorem pd_own {i : Nat} (h : PE X e (tVar i)) : PE X e (tSh X.K O (gVar i)) := h.mono fun σ H Q ⟨U, A0, δ, d, R, ed, q⟩ => by
  obtain ⟨v, hv, hd⟩ := R.at (join_some ed)
  exact ⟨v, hv, q v H (Same.refl H) hd⟩
theorem pd_c {v : V} {d : D} (h : PE X e (tC v)) (hd : ∀ H, HD X.K H v d) : PE X e (tE X.K O (gC d)) := h.mono fun σ H Q ⟨U, A0, δ, d', R, ed, q⟩ => by
  cases ed
  exact q v H (Same.refl H) (hd _)
theorem pd_int {i : Int} (h : PE X e (tC (.int i))) : PE X e (tE X.K O (gC (.int i))) := pd_c h fun _ => .int i
theorem pd_bl {i : Bool} (h : PE X e (tC (.bl i))) : PE X e (tE X.K O (gC (.bool i))) := pd_c h fun _ => .bl i
theorem PE.sh (h : PE X e (tE X.K O g)) : PE X e (tSh X.K O g) := h.mono fun σ H Q ⟨U, A0, δ, d, R, ed, q⟩ => ⟨U, A0, δ, d, R, ed, fun v H' s z => q v H' s (.inl z)⟩
end
def g2 (f : D → D → Option D) (a b : DS → Option D) : DS → Option D := fun δ => (a δ).bind fun x => (b δ).bind fun y => f x y
def g2N (f : D → D → Option (List D)) (a b : DS → Option D) : DS → Option (List D) := fun δ => (a δ).bind fun x => (b δ).bind fun y => f x y
def Imp2 (K : PySem.W.Frag) (r : R2) (f : D → D → Option D) : Prop := ∀ (A : List Addr) (H : Hp) (x y : V) (dx dy d : D) (Q : VK), Ls A H → ShD K A H x dx → ShD K A H y dy → f dx dy = some d → (∀ v H', Same H H' → HD K (wo H' A) v d → Q v H') → r x y H Q
def Imp2N (K : PySem.W.Frag) (r : R2) (f : D → D → Option (List D)) : Prop := ∀ (A : List Addr) (H : Hp) (x y : V) (dx dy : D) (ds : List D) (Q : VK), Ls A H → ShD K A H x dx → ShD K A H y dy → f dx dy = some ds →
  (∀ p ys, H p = none → HDs K (wo H A) ys ds → Q (.ref p) (upd H p (.lst ys))) → r x y H Q
theorem bind2 {α β γ : Type} {a : Option α} {b : Option β} {f : α → β → Option γ} {d : γ} (h : (a.bind fun x => b.bind fun y => f x y) = some d) : ∃ x y, a = some x ∧ b = some y ∧ f x y = some d := by
  cases a with
  | none => cases h
  | some x => cases b with
    | none => cases h
    | some y => exact ⟨x, y, rfl, rfl, h⟩
theorem bind1 {α β : Type} {a : Option α} {f : α → Option β} {d : β} (h : a.bind f = some d) : ∃ x, a = some x ∧ f x = some d := by
  cases a with
  | none => cases h
  | some x => exact ⟨x, rfl, h⟩
section
variable {X : Cx} {O : List Nat} {a b : Expr} {ga gb : DS → Option D} {pos : Pos} {r : R2}
theorem tOp_E {K : PySem.W.Frag} {f : D → D → Option D} (imp : Imp2 K r f) {σ : St} {H : Hp} {Q : VK} : tE K O (g2 f ga gb) σ H Q → tOp r (tSh K O ga) (tSh K O gb) σ H Q := fun ⟨U, A0, δ, d, R, ed, q⟩ => by
  obtain ⟨x, y, ex, ey, ef⟩ := bind2 ed
  exact ⟨U, A0, δ, x, R, ex, fun v1 H1 s1 h1 => ⟨U, A0, δ, y, R.same s1, ey, fun v2 H2 s2 h2 => imp _ H2 v1 v2 x y d Q (R.same (s1.trans s2)).al (h1.same s2) h2 ef fun v H' s h => q v H' ((s1.trans s2).trans s) h⟩⟩
theorem pd_op {op : Operator} {f : D → D → Option D} (ho : OpR X (binaryOp op) r) (imp : Imp2 X.K r f) (ha : PE X a (tSh X.K O ga)) (hb : PE X b (tSh X.K O gb)) : PE X (.BinOp a op b pos) (tE X.K O (g2 f ga gb)) := (pe_op ho ha hb).mono fun _ _ _ => tOp_E imp
theorem pd_cmp {op : CmpOp} {f : D → D → Option D} (ho : OpR X (compareOp op) r) (imp : Imp2 X.K r f) (ha : PE X a (tSh X.K O ga)) (hb : PE X b (tSh X.K O gb)) (hm : behindInMarks op b = false) : PE X (.Compare a [op] [b] pos) (tE X.K O (g2 f ga gb)) := (pe_cmpR ho ha hb hm).mono fun _ _ _ => tOp_E imp
def gB (g : DS → Option D) : DS → Option Bool := fun δ => (g δ).bind fun | .bool b => some b | _ => none
theorem tT_of {K : PySem.W.Frag} {g : DS → Option D} {te : TE} (m : ∀ σ H Q, tE K O g σ H Q → te σ H Q) {σ : St} {H : Hp} {Q : Bool → Hp → Prop} : tT K O (gB g) σ H Q → te σ H fun x H' => ∃ k, x = .bl k ∧ Q k H' := fun ⟨U, A0, δ, b, R, ed, q⟩ => by
  obtain ⟨d, e1, e2⟩ := bind1 ed
  cases d with
  | bool c =>
    cases e2
    exact m σ H _ ⟨U, A0, δ, _, R, e1, fun v H' s h => by cases h; exact ⟨_, rfl, q H' s⟩⟩
  | _ => cases e2
theorem pd_tcmp {op : CmpOp} {f : D → D → Option D} (ho : OpR X (compareOp op) r) (imp : Imp2 X.K r f) (ha : PE X a (tSh X.K O ga)) (hb : PE X b (tSh X.K O gb)) (hm : behindInMarks op b = false) : PT X (.Compare a [op] [b] pos) (tT X.K O (gB (g2 f ga gb))) := (pt_cmpR ho ha hb hm).mono fun _ _ _ => tT_of fun _ _ _ => tOp_E imp
end
def dI (g : Int → Int → D) : D → D → Option D
  | .int a, .int b => some (g a b)
  | _, _ => none
open Classical in
noncomputable def dIc (C : Int → Int → Prop) (g : Int → Int → D) : D → D → Option D
  | .int a, .int b => if C a b then some (g a b) else none
  | _, _ => none
open Classical in
theorem dIc_ok {C : Int → Int → Prop} {g : Int → Int → D} {a b : Int} (h : C a b) : dIc C g (.int a) (.int b) = some (g a b) := by
  show (if C a b then some (g a b) else none) = _
  rw [if_pos h]
theorem dI_ok {g : Int → Int → D} {a b : Int} : dI g (.int a) (.int b) = some (g a b) := rfl
theorem imp_I {K : PySem.W.Frag} {g : Int → Int → Int} : Imp2 K (rI0 fun i j => .int (g i j)) (dI fun i j => .int (g i j)) := by
  intro A H x y dx dy d Q al hx hy e q
  unfold dI at e
  split at e
  · cases e
    exact ⟨_, _, hx.int, hy.int, q _ H (Same.refl H) (.int _)⟩
  · cases e
theorem imp_Ib {K : PySem.W.Frag} {g : Int → Int → Bool} : Imp2 K (rI0 fun i j => .bl (g i j)) (dI fun i j => .bool (g i j)) := by
  intro A H x y dx dy d Q al hx hy e q
  unfold dI at e
  split at e
  · cases e
    exact ⟨_, _, hx.int, hy.int, q _ H (Same.refl H) (.bl _)⟩
  · cases e
theorem imp_Ic {K : PySem.W.Frag} {C : Int → Int → Prop} {g : Int → Int → Int} : Imp2 K (rI C fun i j => .int (g i j)) (dIc C fun i j => .int (g i j)) := by
  intro A H x y dx dy d Q al hx hy e q
  unfold dIc at e
  split at e
  · split at e
    · rename_i c
      cases e
      exact ⟨_, _, hx.int, hy.int, c, q _ H (Same.refl H) (.int _)⟩
    · cases e
  · cases e
abbrev dSub : D → D → Option D := dI fun i j => .int (i - j)
noncomputable abbrev dMulI : D → D → Option D := dIc IntMulOk fun i j => .int (i * j)
noncomputable abbrev dDiv : D → D → Option D := dIc CDivS fun i j => .int (i.fdiv j)
noncomputable abbrev dMod : D → D → Option D := dIc (fun _ j => j ≠ 0) fun i j => .int (i.fmod j)
noncomputable abbrev dPow : D → D → Option D := dIc CPow fun i j => .int (i ^ j.toNat)
abbrev dLt : D → D → Option D := dI fun i j => .bool (decide (i < j))
abbrev dGt : D → D → Option D := dI fun i j => .bool (decide (j < i))
def dEq : D → D → Option D
  | .int a, .int b => some (.bool (decide (a = b)))
  | a, b => if (SeqAt.shaped a && SeqAt.shaped b) = true then some (.bool (PyData.eqv a b)) else none
def dNe : D → D → Option D := fun a b => (dEq a b).bind fun | .bool c => some (.bool (!c)) | _ => none
theorem dEq_eqv {a b d : D} (h : dEq a b = some d) : SeqAt.shaped a = true ∧ SeqAt.shaped b = true ∧ d = .bool (PyData.eqv a b) := by
  unfold dEq at h
  split at h
  · cases h
    refine ⟨by simp [SeqAt.shaped, PyData.canLay0, PyData.depth], by simp [SeqAt.shaped, PyData.canLay0, PyData.depth], ?_⟩
    rw [PyData.eqv]; rfl
  · split at h
    · rename_i c
      rw [Bool.and_eq_true] at c
      cases h
      exact ⟨c.1, c.2, rfl⟩
    · cases h
def rEqH (K : PySem.W.Frag) (neg : Bool) : R2 := fun x y H Q => ∃ d e, HD K H x d ∧ HD K H y e ∧ SeqAt.shaped d = true ∧ SeqAt.shaped e = true ∧ Q (.bl (if neg = true then !PyData.eqv d e else PyData.eqv d e)) H
section
variable {X : Cx}
theorem op_eqH {k : Nat} (hr : Room k X.A) : OpR X (compareOp .Eq) (rEqH X.K false) := by
  intro pins s σ H x y v u Q I rx ry h
  obtain ⟨d, e, h1, h2, s1, s2, q⟩ := h
  obtain ⟨as, r1⟩ := h1.reads I rx
  obtain ⟨bs, r2⟩ := h2.reads I ry
  exact eq_dataH r1 r2 s1 s2 hr.units ⟨.bl _, H, I, rfl, q⟩
theorem op_neH {k : Nat} (hr : Room k X.A) : OpR X (compareOp .NotEq) (rEqH X.K true) := by
  intro pins s σ H x y v u Q I rx ry h
  obtain ⟨d, e, h1, h2, s1, s2, q⟩ := h
  obtain ⟨as, r1⟩ := h1.reads I rx
  obtain ⟨bs, r2⟩ := h2.reads I ry
  exact ne_dataH r1 r2 s1 s2 hr.units ⟨.bl _, H, I, rfl, q⟩
end
theorem imp_eq {K : PySem.W.Frag} : Imp2 K (rEqH K false) dEq := by
  intro A H x y dx dy d Q al hx hy e q
  obtain ⟨a, b, rfl⟩ := dEq_eqv e
  exact ⟨dx, dy, hx.isD, hy.isD, a, b, q _ H (Same.refl H) (.bl _)⟩
theorem imp_ne {K : PySem.W.Frag} : Imp2 K (rEqH K true) dNe := by
  intro A H x y dx dy d Q al hx hy e q
  obtain ⟨c, e1, e2⟩ := bind1 e
  obtain ⟨a, b, rfl⟩ := dEq_eqv e1
  cases e2
  exact ⟨dx, dy, hx.isD, hy.isD, a, b, q _ H (Same.refl H) (.bl _)⟩
def rCatR (K : PySem.W.Frag) : R2 := fun x y H Q => ∃ l b xs zs, x = .ref l ∧ y = .ref b ∧ LsD K H l xs ∧ LsD K H b zs ∧ xs.length + zs.length ≤ sizeLine ∧ ∀ p, H p = none → Q (.ref p) (upd H p (.lst (xs ++ zs)))
theorem op_catR {X : Cx} : OpR X (binaryOp .Add) (rCatR X.K) := by
  intro pins s σ H x y v u Q I rx ry h
  obtain ⟨l, b, xs, zs, rfl, rfl, hH, hB, hz, q⟩ := h
  cases rx
  cases ry
  obtain ⟨z, its, n, r, e⟩ := I.lsd hH
  obtain ⟨z2, its2, n2, r2, e2⟩ := I.lsd hB
  have hl := r.length
  have hl2 := r2.length
  refine PySem.P.add_list e e2 ?_ (by rw [List.size_toArray, List.size_toArray]; omega)
  have ea : its.toArray ++ its2.toArray = (its ++ its2).toArray := by simp
  rw [ea]
  exact ⟨.ref _, _, I.lnew (t' := s.toks) (r.append r2) (by rw [List.length_append]; omega), rfl, q _ I.fresh⟩
def dCat : D → D → Option (List D)
  | .list a, .list b => if a.length + b.length ≤ 100000 then some (a ++ b) else none
  | _, _ => none
theorem imp_cat {K : PySem.W.Frag} : Imp2N K (rCatR K) dCat := by
  intro A H x y dx dy ds Q al hx hy e q
  unfold dCat at e
  split at e
  · split at e
    · rename_i hz
      cases e
      obtain ⟨l, xs, rfl, h1, h2⟩ := hx.list
      obtain ⟨b, zs, rfl, h3, h4⟩ := hy.list
      have := h2.len
      have := h4.len
      exact ⟨l, b, xs, zs, rfl, rfl, h1, h3, small (by omega), fun p hp => q p _ hp (h2.app h4)⟩
    · cases e
  · cases e
def dAdd : D → D → Option D
  | .int a, .int b => some (.int (a + b))
  | .str a, .str b => if a.length + b.length ≤ 100000 then some (.str (a ++ b)) else none
  | .list a, .list b => if a.length + b.length ≤ 100000 then some (.list (a ++ b)) else none
  | .tuple a, .tuple b => if a.length + b.length ≤ 100000 ∧ a ≠ [] then some (.tuple (a ++ b)) else none
  | _, _ => none
def rAddU (K : PySem.W.Frag) : R2 := fun x y H Q => rI0 (fun i j => .int (i + j)) x y H Q ∨ (∃ i j, x = .str i ∧ y = .str j ∧ i.length + j.length ≤ sizeLine ∧ Q (.str (i ++ j)) H) ∨ rCatR K x y H Q ∨ rCatT K x y H Q
theorem op_addU {X : Cx} : OpR X (binaryOp .Add) (rAddU X.K) := op_add.or (op_add_str.or (op_catR.or op_catT))
theorem HD.newL {K : PySem.W.Frag} {A : List Addr} {H : Hp} {p : Addr} {ys : List V} {ds : List D} (al : Ls A H) (hp : H p = none) (h : HDs K (wo H A) ys ds) : HD K (wo (upd H p (.lst ys)) A) (.ref p) (.list ds) := by
  rw [wo_new (al.free hp)]
  have hn : wo H A p = none := by
    by_cases z : p ∈ A
    · exact wo_in z
    · rw [wo_out z]; exact hp
  exact .lst (.of upd_same) (h.same (same_new hn _))
theorem HD.newT {K : PySem.W.Frag} {A : List Addr} {H : Hp} {p : Addr} {ys : List V} {ds : List D} (al : Ls A H) (hp : H p = none) (h : HDs K (wo H A) ys ds) : HD K (wo (upd H p (.tup ys)) A) (.ref p) (.tuple ds) := by
  rw [wo_new (al.free hp)]
  have hn : wo H A p = none := by
    by_cases z : p ∈ A
    · exact wo_in z
    · rw [wo_out z]; exact hp
  exact .tup (.inl upd_same) (h.same (same_new hn _))
theorem imp_add {K : PySem.W.Frag} : Imp2 K (rAddU K) dAdd := by
  intro A H x y dx dy d Q al hx hy e q
  unfold dAdd at e
  split at e
  · cases e
    exact .inl ⟨_, _, hx.int, hy.int, q _ H (Same.refl H) (.int _)⟩
  · split at e
    · cases e
      exact .inr (.inl ⟨_, _, hx.str, hy.str, small (by assumption), q _ H (Same.refl H) (.str _)⟩)
    · cases e
  · split at e
    · rename_i hz
      cases e
      refine .inr (.inr (.inl (imp_cat (K := K) A H x y _ _ _ Q al hx hy (show (if _ then some _ else none) = some _ from if_pos hz) fun p ys hp h => ?_)))
      exact q _ _ (same_new hp _) (HD.newL al hp h)
    · cases e
  · split at e
    · rename_i hz
      cases e
      have hx' := hx.fz
      obtain ⟨a, xs, rfl, h1, h2⟩ := hx.tuple
      obtain ⟨b, zs, rfl, h3, h4⟩ := hy.tuple
      have l2 := h2.len
      have l4 := h4.len
      refine .inr (.inr (.inr ⟨a, b, xs, zs, rfl, rfl, h1, h3, ?_, small (by omega), fun z => ?_, fun z p hp => ?_⟩))
      · intro z; subst z; cases h2; exact hz.2 rfl
      · subst z; cases h4
        rw [List.append_nil] at q
        exact q _ H (Same.refl H) hx'
      · exact q _ _ (same_new hp _) (HD.newT al hp (h2.app h4))
    · cases e
  · cases e
def dIx : D → D → Option D
  | .list ds, .int i => atI ds i
  | .tuple ds, .int i => atI ds i
  | .str z, .int i => if z.length ≤ 100000 then (atI z.cps.toList i).map fun c => .str ⟨#[c]⟩ else none
  | _, _ => none
theorem HDs.atI {K : PySem.W.Frag} {H : Hp} {xs : List V} {ds : List D} {i : Int} {d : D} (h : HDs K H xs ds) (e : atI ds i = some d) : ∃ v, L2.atI xs i = some v ∧ HD K H v d := by
  unfold L2.atI at e ⊢
  obtain ⟨j, e1, e2⟩ := bind1 e
  rw [h.len, e1]
  obtain ⟨x, hx, q⟩ := h.get e2
  exact ⟨x, hx, q⟩
theorem imp_ix {K : PySem.W.Frag} : Imp2 K (rIx K) dIx := by
  intro A H x y dx dy d Q al hx hy e q
  unfold dIx at e
  split at e
  · obtain ⟨l, xs, rfl, h1, h2⟩ := hx.list
    obtain ⟨v, e1, e2⟩ := h2.atI e
    exact .inl ⟨l, xs, _, v, rfl, hy.int, h1.sq, e1, q _ H (Same.refl H) e2⟩
  · obtain ⟨l, xs, rfl, h1, h2⟩ := hx.tuple
    obtain ⟨v, e1, e2⟩ := h2.atI e
    exact .inr (.inl ⟨l, xs, _, v, rfl, hy.int, h1, e1, q _ H (Same.refl H) e2⟩)
  · split at e
    · rename_i z i hz
      cases ec : L2.atI z.cps.toList i with
      | none => rw [ec] at e; cases e
      | some c =>
        rw [ec] at e; cases e
        exact .inr (.inr ⟨z, i, c, hx.str, hy.int, small hz, ec, q _ H (Same.refl H) (.str _)⟩)
    · cases e
  · cases e
section
variable {X : Cx} {O : List Nat} {a b : Expr} {ga gb : DS → Option D} {pos : Pos}
theorem pd_ix (ha : PE X a (tSh X.K O ga)) (hb : PE X b (tSh X.K O gb)) (hs : PlainIx b := by exact fun _ _ => rfl) : PE X (.Subscript a b pos) (tE X.K O (g2 dIx ga gb)) := (pe_ix ix_seq ha hb hs).mono fun _ _ _ => tOp_E imp_ix
end
def g1 (f : D → Option D) (a : DS → Option D) : DS → Option D := fun δ => (a δ).bind f
def dNeg : D → Option D
  | .int a => some (.int (-a))
  | _ => none
def dNot : D → Option D
  | .bool a => some (.bool (!a))
  | _ => none
section
variable {X : Cx} {O : List Nat} {a b c : Expr} {ga gb : DS → Option D} {pos : Pos}
theorem pd_neg (ha : PE X a (tSh X.K O ga)) : PE X (.UnaryOp .USub a pos) (tE X.K O (g1 dNeg ga)) := (pe_un un_neg ha).mono fun σ H Q ⟨U, A0, δ, d, R, ed, q⟩ => by
  obtain ⟨x, e1, e2⟩ := bind1 ed
  cases x with
  | int i => cases e2; exact ⟨U, A0, δ, _, R, e1, fun v H' s h => ⟨i, h.int, q _ H' s (.int _)⟩⟩
  | _ => cases e2
theorem pd_not (ha : PE X a (tSh X.K O ga)) : PE X (.UnaryOp .Not a pos) (tE X.K O (g1 dNot ga)) := (pe_not ha).mono fun σ H Q ⟨U, A0, δ, d, R, ed, q⟩ => by
  obtain ⟨x, e1, e2⟩ := bind1 ed
  cases x with
  | bool i => cases e2; exact ⟨U, A0, δ, _, R, e1, fun v H' s h => ⟨i, h.bool, q _ H' s (.bl _)⟩⟩
  | _ => cases e2
def gAndV (a b : DS → Option D) : DS → Option D := fun δ => (gB a δ).bind fun x => if x = true then b δ else some (.bool false)
def gOrV (a b : DS → Option D) : DS → Option D := fun δ => (gB a δ).bind fun x => if x = true then some (.bool true) else b δ
theorem gB_some {g : DS → Option D} {δ : DS} {b : Bool} (h : gB g δ = some b) : g δ = some (.bool b) := by
  obtain ⟨d, e1, e2⟩ := bind1 h
  cases d with
  | bool c => cases e2; exact e1
  | _ => cases e2
theorem pd_and {rest : List Expr} (ha : PE X a (tE X.K O ga)) (hb : PE X (.BoolOp .And (b :: rest) pos) (tE X.K O gb)) : PE X (.BoolOp .And (a :: b :: rest) pos) (tE X.K O (gAndV ga gb)) := (pe_and ha hb).mono fun σ H Q ⟨U, A0, δ, d, R, ed, q⟩ => by
  obtain ⟨x, e1, e2⟩ := bind1 ed
  refine ⟨U, A0, δ, _, R, gB_some e1, fun v H' s h => ?_⟩
  cases h
  refine ⟨x, rfl, ?_⟩
  cases x with
  | true => rw [if_pos rfl] at e2 ⊢; exact ⟨U, A0, δ, d, R.same s, e2, fun v H2 s2 h2 => q v H2 (s.trans s2) h2⟩
  | false => rw [if_neg Bool.false_ne_true] at e2 ⊢; cases e2; exact q _ H' s (.bl _)
def gAnd (a b : DS → Option Bool) : DS → Option Bool := fun δ => (a δ).bind fun x => if x = true then b δ else some false
def gOr (a b : DS → Option Bool) : DS → Option Bool := fun δ => (a δ).bind fun x => if x = true then some true else b δ
def gNot (a : DS → Option Bool) : DS → Option Bool := fun δ => (a δ).map fun x => !x
variable {ta tb : DS → Option Bool} {rest : List Expr}
theorem pd_tand (ha : PT X a (tT X.K O ta)) (hb : PW X (.BoolOp .And (b :: rest) pos) (tT X.K O tb)) : PW X (.BoolOp .And (a :: b :: rest) pos) (tT X.K O (gAnd ta tb)) := (pw_and ha hb).mono fun σ H Q ⟨U, A0, δ, d, R, ed, q⟩ => by
  obtain ⟨x, e1, e2⟩ := bind1 ed
  refine ⟨U, A0, δ, _, R, e1, fun H' s => ?_⟩
  cases x with
  | true => rw [if_pos rfl] at e2 ⊢; exact ⟨U, A0, δ, d, R.same s, e2, fun H2 s2 => q H2 (s.trans s2)⟩
  | false => rw [if_neg Bool.false_ne_true] at e2 ⊢; cases e2; exact q H' s
theorem pd_tor (ha : PT X a (tT X.K O ta)) (hb : PW X (.BoolOp .Or (b :: rest) pos) (tT X.K O tb)) : PW X (.BoolOp .Or (a :: b :: rest) pos) (tT X.K O (gOr ta tb)) := (pw_or ha hb).mono fun σ H Q ⟨U, A0, δ, d, R, ed, q⟩ => by
  obtain ⟨x, e1, e2⟩ := bind1 ed
  refine ⟨U, A0, δ, _, R, e1, fun H' s => ?_⟩
  cases x with
  | true => rw [if_pos rfl] at e2 ⊢; cases e2; exact q H' s
  | false => rw [if_neg Bool.false_ne_true] at e2 ⊢; exact ⟨U, A0, δ, d, R.same s, e2, fun H2 s2 => q H2 (s.trans s2)⟩
theorem pd_tnot (ha : PT X a (tT X.K O ta)) : PT X (.UnaryOp .Not a pos) (tT X.K O (gNot ta)) := (pt_not ha).mono fun σ H Q ⟨U, A0, δ, d, R, ed, q⟩ => by
  unfold gNot at ed
  cases e : ta δ with
  | none => rw [e] at ed; cases ed
  | some x => rw [e] at ed; cases ed; exact ⟨U, A0, δ, x, R, e, fun H' s => q H' s⟩
def dTru : D → Option Bool
  | .none => some false
  | .bool b => some b
  | .int i => some (i != 0)
  | .str x => if x.length ≤ 100000 then some ((x.length : Int) != 0) else none
  | .list l => some (!l.isEmpty)
  | .tuple l => some (!l.isEmpty)
  | _ => none
def gTru (g : DS → Option D) : DS → Option Bool := fun δ => (g δ).bind dTru
theorem isEmpty_HD {K : PySem.W.Frag} {H : Hp} {xs : List V} {ds : List D} (h : HDs K H xs ds) : xs.isEmpty = ds.isEmpty := by cases h <;> rfl
theorem pd_truth (ha : PE X a (tSh X.K O ga)) (he : ∀ whole, isTrue a X.env whole = (do let v ← whole; standAt a.pos; holding [v] (truthy v)) := by exact fun _ => rfl) : PT X a (tT X.K O (gTru ga)) := (pt_truth ha he).mono fun σ H Q ⟨U, A0, δ, k, R, ed, q⟩ => by
  obtain ⟨d, e1, e2⟩ := bind1 ed
  refine ⟨U, A0, δ, d, R, e1, fun v H' s h => ⟨k, ?_, q H' s⟩⟩
  cases d with
  | none => cases e2; rw [h.non]; exact rfl
  | bool b => cases e2; rw [h.bool]; exact rfl
  | int i => cases e2; rw [h.int]; exact rfl
  | str x =>
    rw [h.str]
    have e3 : (if x.length ≤ 100000 then some ((x.length : Int) != 0) else none) = some k := e2
    split at e3
    · cases e3; exact ⟨small (by assumption), rfl⟩
    · cases e3
  | list l =>
    cases e2
    obtain ⟨p, xs, rfl, h1, h2⟩ := h.list
    exact .inl ⟨xs, h1.sq, by rw [isEmpty_HD h2]⟩
  | tuple l =>
    cases e2
    obtain ⟨p, xs, rfl, h1, h2⟩ := h.tuple
    exact .inr (.inl ⟨xs, h1, by rw [isEmpty_HD h2]⟩)
  | dict _ => cases e2
def gIfE (c : DS → Option Bool) (a b : DS → Option D) : DS → Option D := fun δ => (c δ).bind fun x => if x = true then a δ else b δ
end
def gNilA : DS → Option (List D) := fun _ => some []
def gConsA (a : DS → Option D) (r : DS → Option (List D)) : DS → Option (List D) := fun δ => (a δ).bind fun x => (r δ).bind fun xs => some (x :: xs)
def gTupD (r : DS → Option (List D)) : DS → Option D := fun δ => (r δ).bind fun xs => if xs.length ≤ 100000 then some (.tuple xs) else none
def gLstN (r : DS → Option (List D)) : DS → Option (List D) := fun δ => (r δ).bind fun xs => if xs.length ≤ 100000 then some xs else none
section
variable {X : Cx} {O : List Nat} {e : Expr} {es : List Expr} {ga : DS → Option D} {gr : DS → Option (List D)} {pos : Pos}
theorem pd_anil : PA X [] (tAs X.K O gNilA) := pa_nil.mono fun σ H Q ⟨U, A0, δ, d, R, ed, q⟩ => by cases ed; exact q [] H (Same.refl H) .nil
theorem pd_acons (ha : PE X e (tE X.K O ga)) (hr : PA X es (tAs X.K O gr)) (hs : starEach (e :: es) X.env = (false, eval e X.env) :: starEach es X.env := by rfl) : PA X (e :: es) (tAs X.K O (gConsA ga gr)) := (pa_cons ha hr hs).mono fun σ H Q ⟨U, A0, δ, ds, R, ed, q⟩ => by
  obtain ⟨x, xs, e1, e2, e3⟩ := bind2 ed
  cases e3
  exact ⟨U, A0, δ, x, R, e1, fun v H1 s1 h1 => ⟨U, A0, δ, xs, R.same s1, e2, fun vs H2 s2 h2 => q _ H2 (s1.trans s2) (.cons (h1.same (wo_mono s2)) h2)⟩⟩
theorem pd_shnil : PA X [] (tAsh X.K O gNilA) := pa_nil.mono fun σ H Q ⟨U, A0, δ, d, R, ed, q⟩ => by cases ed; exact q [] H (Same.refl H) .nil
theorem pd_shcons (ha : PE X e (tSh X.K O ga)) (hr : PA X es (tAsh X.K O gr)) (hs : starEach (e :: es) X.env = (false, eval e X.env) :: starEach es X.env := by rfl) : PA X (e :: es) (tAsh X.K O (gConsA ga gr)) := (pa_cons ha hr hs).mono fun σ H Q ⟨U, A0, δ, ds, R, ed, q⟩ => by
  obtain ⟨x, xs, e1, e2, e3⟩ := bind2 ed
  cases e3
  exact ⟨U, A0, δ, x, R, e1, fun v H1 s1 h1 => ⟨U, A0, δ, xs, R.same s1, e2, fun vs H2 s2 h2 => q _ H2 (s1.trans s2) (.cons (h1.same s2) h2)⟩⟩
theorem pd_tup {x1} (h : PA X es (tAs X.K O gr)) : PE X (.Tuple es x1 pos) (tE X.K O (gTupD gr)) := (pe_tup h).mono fun σ H Q ⟨U, A0, δ, d, R, ed, q⟩ => by
  obtain ⟨xs, e1, e2⟩ := bind1 ed
  split at e2
  · rename_i hz
    cases e2
    refine ⟨U, A0, δ, xs, R, e1, fun vs H' s h => ⟨by have := h.len; exact small (by omega), fun p hp => q _ _ (s.trans (same_new hp _)) (HD.newT (R.same s).al hp h)⟩⟩
  · cases e2
end
def spD (K : PySem.W.Frag) (n : Nat) (G : List D → Option D) : Sp := fun vs H Q _ => vs.length = n ∧ ∃ A ds d, Ls A H ∧ HDs K (wo H A) vs ds ∧ G ds = some d ∧ ∀ v H', Same H H' → HD K (wo H' A) v d → Q v H'
def gCall (G : List D → Option D) (n : Nat) (g : DS → Option (List D)) : DS → Option D := fun δ => (g δ).bind fun ds => if ds.length = n then G ds else none
def gCallN (G : List D → Option (List D)) (n : Nat) (g : DS → Option (List D)) : DS → Option (List D) := fun δ => (g δ).bind fun ds => if ds.length = n then G ds else none
def gCallSh (G : List D → Option D) (n : Nat) (g : DS → Option (List D)) : DS → Option D := fun δ => (g δ).bind fun ds => if ds.length = n then (G ds).bind fun d => if noL d = true then some d else none else none
section
variable {X : Cx} {O : List Nat} {e : Expr} {es : List Expr} {gr : DS → Option (List D)} {pos p : Pos} {n k kk : Nat} {x : Str} {ps : List Str}
theorem ShDs.isDs {K : PySem.W.Frag} {A : List Addr} {H : Hp} : ∀ {vs : List V} {ds : List D}, ShDs K A H vs ds → HDs K H vs ds
  | _, _, .nil => .nil
  | _, _, .cons h t => .cons h.isD (ShDs.isDs t)
theorem pd_call {G : List D → Option D} (F : Dn X.prog X.w X.K X.mg X.base k x ps (spD X.K n G)) (hr : Room kk X.A) (hk : k ≤ kk) (ha : PA X (e :: es) (tAs X.K O gr)) (hg : Gl X x := by rfl)
    (hdb : (x == ("__debug__" : Str)) = false := by decide) (he : starEach (e :: es) X.env = (false, eval e X.env) :: starEach es X.env := by rfl) (hpl : (backTo pos (starEach es X.env)).any (·.1) = false := by rfl) :
    PE X (.Call (.Name x p) (e :: es) [] pos) (tE X.K O (gCall G n gr)) := (pe_fn F hr hk ha hg hdb he hpl).mono fun σ H Q ⟨U, A0, δ, d, R, ed, q⟩ => by
  obtain ⟨ds, e1, e2⟩ := bind1 ed
  split at e2
  · rename_i hn
    refine ⟨U, A0, δ, ds, R, e1, fun vs H' s h => ?_⟩
    show spD X.K n G (vs ++ []) H' Q E0
    rw [List.append_nil]
    exact ⟨by rw [h.len]; exact hn, U ++ A0, ds, d, (R.same s).al, h, e2, fun v H2 s2 h2 => q v H2 (s.trans s2) h2⟩
  · cases e2
end
def ImpC (K : PySem.W.Frag) (r : List V → Hp → VK → Prop) (f : List D → Option D) : Prop := ∀ (A : List Addr) (H : Hp) (vs : List V) (ds : List D) (d : D) (Q : VK), Ls A H → ShDs K A H vs ds → f ds = some d → (∀ v H', Same H H' → HD K (wo H' A) v d → Q v H') → r vs H Q
def gB1 (f : List D → Option D) (g : DS → Option (List D)) : DS → Option D := fun δ => (g δ).bind f
def gB1N (f : List D → Option (List D)) (g : DS → Option (List D)) : DS → Option (List D) := fun δ => (g δ).bind f
section
variable {X : Cx} {O : List Nat} {e : Expr} {es : List Expr} {gr : DS → Option (List D)} {pos p : Pos} {x : Str} {r : List V → Hp → VK → Prop} {id T : String}
theorem tCB_E {K : PySem.W.Frag} {f : List D → Option D} (imp : ImpC K r f) {σ : St} {H : Hp} {Q : VK} : tE K O (gB1 f gr) σ H Q → tCB r (tAsh K O gr) σ H Q := fun ⟨U, A0, δ, d, R, ed, q⟩ => by
  obtain ⟨ds, e1, e2⟩ := bind1 ed
  exact ⟨U, A0, δ, ds, R, e1, fun vs H' s h => imp _ H' vs ds d Q (R.same s).al h e2 fun v H2 s2 h2 => q v H2 (s.trans s2) h2⟩
theorem pd_callB {f : List D → Option D} (hc : CallR X (.builtin id) r) (imp : ImpC X.K r f) (hg : Gl X x) (hm : X.mg x = none) (hv : bootBuiltins x = some (.builtin id)) (ha : PA X (e :: es) (tAsh X.K O gr)) (hn : x ≠ "__name__" := by decide) (hdb : (x == ("__debug__" : Str)) = false := by decide)
    (he : starEach (e :: es) X.env = (false, eval e X.env) :: starEach es X.env := by rfl) (hpl : (backTo pos (starEach es X.env)).any (·.1) = false := by rfl) : PE X (.Call (.Name x p) (e :: es) [] pos) (tE X.K O (gB1 f gr)) :=
  (pe_callB hc hg hm hv ha hn hdb he hpl).mono fun _ _ _ => tCB_E imp
end
theorem sh1 {K : PySem.W.Frag} {A : List Addr} {H : Hp} {vs : List V} {d : D} (h : ShDs K A H vs [d]) : ∃ v, vs = [v] ∧ ShD K A H v d := by
  unfold ShDs at h
  cases h with
  | cons a t => cases t; exact ⟨_, rfl, a⟩
theorem sh2 {K : PySem.W.Frag} {A : List Addr} {H : Hp} {vs : List V} {d e : D} (h : ShDs K A H vs [d, e]) : ∃ v u, vs = [v, u] ∧ ShD K A H v d ∧ ShD K A H u e := by
  unfold ShDs at h
  cases h with
  | cons a t => cases t with
    | cons b t => cases t; exact ⟨_, _, rfl, a, b⟩
def dLen : List D → Option D
  | [.list l] => some (.int l.length)
  | [.tuple l] => some (.int l.length)
  | [.str z] => if z.length ≤ 100000 then some (.int z.length) else none
  | _ => none
theorem call_lenU {X : Cx} : CallR X (.builtin "len") (fun xs H Q => (∃ p ys, xs = [.ref p] ∧ (SqL X.K H p ys ∨ SqT X.K H p ys) ∧ Q (.int ys.length) H) ∨ ∃ z, xs = [.str z] ∧ z.length ≤ sizeLine ∧ Q (.int z.length) H) := call_len_seq.or call_len_str
theorem imp_len {K : PySem.W.Frag} : ImpC K (fun xs H Q => (∃ p ys, xs = [.ref p] ∧ (SqL K H p ys ∨ SqT K H p ys) ∧ Q (.int ys.length) H) ∨ ∃ z, xs = [.str z] ∧ z.length ≤ sizeLine ∧ Q (.int z.length) H) dLen := by
  intro A H vs ds d Q al h e q
  unfold dLen at e
  split at e
  · cases e
    obtain ⟨v, rfl, h1⟩ := sh1 h
    clear h
    have h := h1
    obtain ⟨p, xs, rfl, h1, h2⟩ := h.list
    refine .inl ⟨p, xs, rfl, .inl h1.sq, ?_⟩
    rw [h2.len]
    exact q _ H (Same.refl H) (.int _)
  · cases e
    obtain ⟨v, rfl, h1⟩ := sh1 h
    clear h
    have h := h1
    obtain ⟨p, xs, rfl, h1, h2⟩ := h.tuple
    refine .inl ⟨p, xs, rfl, .inr h1, ?_⟩
    rw [h2.len]
    exact q _ H (Same.refl H) (.int _)
  · split at e
    · cases e
      obtain ⟨v, rfl, h1⟩ := sh1 h
      exact .inr ⟨_, by rw [h1.str], small (by assumption), q _ H (Same.refl H) (.int _)⟩
    · cases e
  · cases e
def dAbs : List D → Option D
  | [.int i] => some (.int (if i < 0 then -i else i))
  | _ => none
theorem imp_abs {K : PySem.W.Frag} : ImpC K (fun xs H Q => ∃ i, xs = [.int i] ∧ Q (.int (if i < 0 then -i else i)) H) dAbs := by
  intro A H vs ds d Q al h e q
  unfold dAbs at e
  split at e
  · cases e
    obtain ⟨v, rfl, h1⟩ := sh1 h
    clear h
    have h := h1
    exact ⟨_, by rw [h.int], q _ H (Same.refl H) (.int _)⟩
  · cases e
def dMax2 : List D → Option D
  | [.int i, .int j] => some (.int (if j > i then j else i))
  | _ => none
def dMin2 : List D → Option D
  | [.int i, .int j] => some (.int (if j < i then j else i))
  | _ => none
theorem imp_max {K : PySem.W.Frag} : ImpC K (fun xs H Q => ∃ i j, xs = [.int i, .int j] ∧ Q (.int (if j > i then j else i)) H) dMax2 := by
  intro A H vs ds d Q al h e q
  unfold dMax2 at e
  split at e
  · cases e
    obtain ⟨v, u, rfl, h1, h'⟩ := sh2 h
    clear h
    have h := h1
    exact ⟨_, _, by rw [h.int, h'.int], q _ H (Same.refl H) (.int _)⟩
  · cases e
theorem imp_min {K : PySem.W.Frag} : ImpC K (fun xs H Q => ∃ i j, xs = [.int i, .int j] ∧ Q (.int (if j < i then j else i)) H) dMin2 := by
  intro A H vs ds d Q al h e q
  unfold dMin2 at e
  split at e
  · cases e
    obtain ⟨v, u, rfl, h1, h'⟩ := sh2 h
    clear h
    have h := h1
    exact ⟨_, _, by rw [h.int, h'.int], q _ H (Same.refl H) (.int _)⟩
  · cases e
def dInt : List D → Option D
  | [.int i] => some (.int i)
  | [.bool k] => some (.int (if k then 1 else 0))
  | _ => none
def dListN : List D → Option (List D)
  | [.list l] => some l
  | [.tuple l] => some l
  | _ => none
def dTupleOf : List D → Option D
  | [.list l] => some (.tuple l)
  | [.tuple l] => some (.tuple l)
  | _ => none
def tyName : D → String
  | .none => "NoneType"
  | .bool _ => "bool"
  | .int _ => "int"
  | .str _ => "str"
  | .list _ => "list"
  | .tuple _ => "tuple"
  | .dict _ => "dict"
end L2
namespace L2
open PySem PySem.Spec PyProof.Rows
theorem kit_of {K : PySem.W.Frag} {t n : String} {b : Bool} (h : (Value.type t == Value.type n) = false) (h2 : PySem.W.kitMeta n = true) (h3 : (fastBuiltinMro t).map (·.contains (Value.type n)) = some b) : PySem.W.kitOne K (.type t) (.type n) = some b := by
  unfold PySem.W.kitOne PySem.W.kitCls
  rw [h, if_neg (by decide)]
  show (if PySem.W.kitMeta n = true then PySem.W.subIn K (.type t) (.type n) else none) = some b
  rw [if_pos h2]
  exact h3
def isiNames : List String := ["int", "bool", "str", "list", "tuple", "NoneType"]
def dIsi (n : String) : List D → Option D
  | [d] => if tyName d ∈ isiNames ∧ n ∈ isiNames then some (.bool (decide (tyName d = n) || (decide (tyName d = "bool") && decide (n = "int")))) else none
  | _ => none
theorem kit_tab {K : PySem.W.Frag} {t n : String} (ht : t ∈ isiNames) (hn : n ∈ isiNames) : PySem.W.kitOne K (.type t) (.type n) = some (decide (t = n) || (decide (t = "bool") && decide (n = "int"))) := by
  by_cases h : t = n
  · subst h
    rw [kit_same]; simp
  · have all : ∀ t ∈ isiNames, ∀ n ∈ isiNames, t ≠ n → (Value.type t == Value.type n) = false ∧ PySem.W.kitMeta n = true ∧ (fastBuiltinMro t).map (·.contains (Value.type n)) = some (decide (t = n) || (decide (t = "bool") && decide (n = "int"))) := by decide +kernel
    obtain ⟨h1, h2, h3⟩ := all t ht n hn h
    exact kit_of h1 h2 h3
theorem ShD.ty {K : PySem.W.Frag} {A : List Addr} {H : Hp} {v : V} {d : D} (h : ShD K A H v d) (hn : tyName d ∈ isiNames) : TyW K H v (tyName d) := by
  cases d with
  | none => rw [h.non]; exact .inl .non
  | bool b => rw [h.bool]; exact .inl (.bl b)
  | int i => rw [h.int]; exact .inl (.int i)
  | str x => rw [h.str]; exact .inl (.str x)
  | list l => obtain ⟨p, xs, rfl, h1, _⟩ := h.list; exact .inr (.inr ⟨p, xs, rfl, h1.sq, rfl⟩)
  | tuple l => obtain ⟨p, xs, rfl, h1, _⟩ := h.tuple; exact .inr (.inl ⟨p, xs, rfl, h1, rfl⟩)
  | dict l => simp [tyName, isiNames] at hn
section
variable {X : Cx} {O : List Nat} {e : Expr} {ga : DS → Option D} {pos p p2 : Pos}
def gIsi (n : String) (g : DS → Option D) : DS → Option D := fun δ => (g δ).bind fun d => dIsi n [d]
theorem pd_isi {n : Str} (T : String) (hB : X.mg "isinstance" = none) (ha : PE X e (tSh X.K O ga)) (ht : PE X (.Name n p2) (tC (.ty T))) (hg : Gl X "isinstance" := by rfl)
    (he : starEach [e, .Name n p2] X.env = (false, eval e X.env) :: starEach [.Name n p2] X.env := by rfl) (he2 : starEach [.Name n p2] X.env = (false, eval (.Name n p2) X.env) :: starEach [] X.env := by rfl) (hpl : (backTo pos (starEach [.Name n p2] X.env)).any (·.1) = false := by rfl) :
    PE X (.Call (.Name "isinstance" p) [e, .Name n p2] [] pos) (tE X.K O (gIsi T ga)) :=
  (pe_callB call_isi hg hB bt_isinstance (pa_cons ha (pa_cons ht pa_nil he2) he) (by decide) (by decide) he hpl).mono fun σ H Q ⟨U, A0, δ, d, R, ed, q⟩ => by
    obtain ⟨x, e1, e2⟩ := bind1 ed
    have e3 : (if tyName x ∈ isiNames ∧ T ∈ isiNames then some (PyData.bool (decide (tyName x = T) || (decide (tyName x = "bool") && decide (T = "int")))) else none) = some d := e2
    split at e3
    · rename_i hz
      cases e3
      refine ⟨U, A0, δ, x, R, e1, fun v H' s h => ?_⟩
      exact ⟨v, T, tyName x, _, rfl, h.ty hz.1, kit_tab hz.1 hz.2, q _ H' s (.bl _)⟩
    · cases e3
end
def gPart (g : DS → Option D) : DS → Option (Option Int) := fun δ => (g δ).bind fun | .int i => some (some i) | _ => none
def gNoPart : DS → Option (Option Int) := fun _ => some none
def cutD (xs : List D) (lo hi : Option Int) : List D := (xs.drop (HT.sIx xs.length 0 lo)).take (HT.sIx xs.length xs.length hi - HT.sIx xs.length 0 lo)
def gSlL (a : DS → Option D) (lo hi : DS → Option (Option Int)) : DS → Option (List D) := fun δ => (a δ).bind fun x => (lo δ).bind fun l => (hi δ).bind fun h => match x with
  | .list ds => some (cutD ds l h)
  | _ => none
section
variable {X : Cx} {O : List Nat} {e : Expr} {lo hi : Option Expr} {ga : DS → Option D} {gl gh : DS → Option (Option Int)} {pos p2 : Pos}
end
def gSeq (a b : DS → Option Res) : DS → Option Res := fun δ => (a δ).bind fun | .nx δ' => b δ' | r => some r
def gSkip : DS → Option Res := fun δ => some (.nx δ)
def gIf (c : DS → Option Bool) (a b : DS → Option Res) : DS → Option Res := fun δ => (c δ).bind fun x => if x = true then a δ else b δ
def gSet (i : Nat) (g : DS → Option D) : DS → Option Res := fun δ => (g δ).bind fun d => some (.nx (δ.set i (some d)))
def gSetN (i : Nat) (g : DS → Option (List D)) : DS → Option Res := fun δ => (g δ).bind fun d => some (.nx (δ.set i (some (.list d))))
def gRet (g : DS → Option D) : DS → Option Res := fun δ => (g δ).bind fun d => some (.rt d)
def gDrop (g : DS → Option D) : DS → Option Res := fun δ => (g δ).bind fun _ => some (.nx δ)
def gAsg (g : DS → Option D) (t : D → DS → Option DS) : DS → Option Res := fun δ => (g δ).bind fun d => (t d δ).bind fun δ' => some (.nx δ')
section
variable {X : Cx} {O : List Nat} {fr : Bool} {st : Stmt} {rest a b : List Stmt} {ga gb : DS → Option Res} {gc : DS → Option Bool} {ge : DS → Option D} {gl : DS → Option (List D)} {e c : Expr} {pos : Pos}
theorem pd_seq (h1 : PS X st (tS X.K O fr ga)) (h2 : PSs X rest (tS X.K O fr gb)) : PSs X (st :: rest) (tS X.K O fr (gSeq ga gb)) := (pss_cons h1 h2).mono fun E σ H ⟨H0, U, A0, δ, r, R, F, ed, P⟩ => by
  obtain ⟨r1, e1, e2⟩ := bind1 ed
  cases r1 with
  | nx δ' => exact ⟨H0, U, A0, δ, .nx δ', R, F, e1, fun U' σ' H' R' F' => ⟨H0, U', A0, δ', r, R', F', e2, P⟩⟩
  | rt d => cases e2; exact ⟨H0, U, A0, δ, _, R, F, e1, P⟩
  | bk d => cases e2; exact ⟨H0, U, A0, δ, _, R, F, e1, P⟩
  | ct d => cases e2; exact ⟨H0, U, A0, δ, _, R, F, e1, P⟩
theorem pd_one (h1 : PS X st (tS X.K O fr ga)) : PSs X [st] (tS X.K O fr ga) := pss_one h1
theorem pd_nil : PSs X [] (tS X.K O fr gSkip) := pss_nil.mono fun E σ H ⟨H0, U, A0, δ, r, R, F, ed, P⟩ => by cases ed; exact P U σ H R F
theorem pd_never : PS X st (tS X.K O fr fun _ => none) := ps_never.mono fun E σ H ⟨H0, U, A0, δ, r, R, F, ed, P⟩ => by cases ed
theorem pd_if (hc : PT X c (tT X.K O gc)) (ha : PSs X a (tS X.K O fr ga)) (hb : PSs X b (tS X.K O fr gb)) : PS X (.If c a b pos) (tS X.K O fr (gIf gc ga gb)) := (ps_if hc ha hb).mono fun E σ H ⟨H0, U, A0, δ, r, R, F, ed, P⟩ => by
  obtain ⟨x, e1, e2⟩ := bind1 ed
  refine ⟨U, A0, δ, x, R, e1, fun H' s => ?_⟩
  cases x with
  | true => rw [if_pos rfl] at e2 ⊢; exact ⟨H0, U, A0, δ, r, R.same s, F.grow s, e2, P⟩
  | false => rw [if_neg Bool.false_ne_true] at e2 ⊢; exact ⟨H0, U, A0, δ, r, R.same s, F.grow s, e2, P⟩
theorem pd_set {i : Nat} (h : PS X st (tAsg (tE X.K O ge) (gName i))) (hi : i ∉ O := by decide) : PS X st (tS X.K O fr (gSet i ge)) := h.mono fun E σ H ⟨H0, U, A0, δ, r, R, F, ed, P⟩ => by
  obtain ⟨d, e1, e2⟩ := bind1 ed
  cases e2
  exact ⟨U, A0, δ, d, R, e1, fun v H' s hv => P U _ H' ((R.same s).set hi hv) (F.grow s)⟩
theorem pd_drop (h : PS X st (tDrop (tE X.K O ge))) : PS X st (tS X.K O fr (gDrop ge)) := h.mono fun E σ H ⟨H0, U, A0, δ, r, R, F, ed, P⟩ => by
  obtain ⟨d, e1, e2⟩ := bind1 ed
  cases e2
  exact ⟨U, A0, δ, d, R, e1, fun v H' s hv => P U σ H' (R.same s) (F.grow s)⟩
theorem pd_ret (h : PE X e (tE X.K O ge)) : PS X (.Return (some e) pos) (tS X.K O false (gRet ge)) := (ps_ret h).mono fun E σ H ⟨H0, U, A0, δ, r, R, F, ed, P⟩ => by
  obtain ⟨d, e1, e2⟩ := bind1 ed
  cases e2
  refine ⟨U, A0, δ, d, R, e1, fun v H' s hv => P v H' ?_⟩
  unfold RetR
  rw [if_neg Bool.false_ne_true]
  exact ⟨F.same.trans s, hv.same (wo_sub fun a ha => List.mem_append_right _ ha)⟩
def gApp (i : Nat) (g : DS → Option D) : DS → Option Res := fun δ => (gVar i δ).bind fun x => (g δ).bind fun d => match x with
  | .list ds => if ds.length < 100000 then some (.nx (δ.set i (some (.list (ds ++ [d]))))) else none
  | _ => none
def gPop (i : Nat) : DS → Option Res := fun δ => (gVar i δ).bind fun x => match x with
  | .list ds => if ds = [] then none else some (.nx (δ.set i (some (.list ds.dropLast))))
  | _ => none
def gSetIx (i : Nat) (gx ge : DS → Option D) : DS → Option Res := fun δ => (ge δ).bind fun d => (gVar i δ).bind fun x => (gx δ).bind fun k => match x, k with
  | .list ds, .int n => (ixN ds.length n).bind fun j => some (.nx (δ.set i (some (.list (ds.set j d)))))
  | _, _ => none
def gAugI (i : Nat) (f : Int → Int → Int) (ge : DS → Option D) : DS → Option Res := fun δ => (gVar i δ).bind fun x => (ge δ).bind fun y => match x, y with
  | .int a, .int b => some (.nx (δ.set i (some (.int (f a b)))))
  | _, _ => none
end
def whN (c : DS → Option Bool) (b : DS → Option Res) : Nat → DS → Option Res
  | 0, _ => none
  | n + 1, δ => (c δ).bind fun x => if x = true then (b δ).bind (fun | .nx δ' => whN c b n δ' | .ct δ' => whN c b n δ' | .bk δ' => some (.nx δ') | .rt d => some (.rt d)) else some (.nx δ)
theorem whN_up {c : DS → Option Bool} {b : DS → Option Res} : ∀ {n : Nat} {δ : DS} {r : Res}, whN c b n δ = some r → whN c b (n + 1) δ = some r
  | 0, _, _, h => by cases h
  | n + 1, δ, r, h => by
    rw [whN] at h ⊢
    obtain ⟨x, e1, e2⟩ := bind1 h
    rw [e1, Option.bind_some]
    cases x with
    | false => exact e2
    | true =>
      rw [if_pos rfl] at e2 ⊢
      obtain ⟨q, e3, e4⟩ := bind1 e2
      rw [e3, Option.bind_some]
      cases q with
      | nx δ' => exact whN_up e4
      | ct δ' => exact whN_up e4
      | bk _ => exact e4
      | rt _ => exact e4
theorem whN_le {c : DS → Option Bool} {b : DS → Option Res} {n m : Nat} {δ : DS} {r : Res} (h : whN c b n δ = some r) (hm : n ≤ m) : whN c b m δ = some r := by
  induction hm with
  | refl => exact h
  | step _ ih => exact whN_up ih
open Classical in
noncomputable def gWhile (c : DS → Option Bool) (b : DS → Option Res) : DS → Option Res := fun δ => if h : ∃ p : Nat × Res, whN c b p.1 δ = some p.2 then some (choose h).2 else none
theorem gWhile_some {c : DS → Option Bool} {b : DS → Option Res} {δ : DS} {r : Res} (h : gWhile c b δ = some r) : ∃ n, whN c b n δ = some r := by
  unfold gWhile at h
  split at h
  · rename_i hp
    cases h
    exact ⟨_, Classical.choose_spec hp⟩
  · cases h
theorem gWhile_of {c : DS → Option Bool} {b : DS → Option Res} {n : Nat} {δ : DS} {r : Res} (h : whN c b n δ = some r) : gWhile c b δ = some r := by
  have hp : ∃ p : Nat × Res, whN c b p.1 δ = some p.2 := ⟨(n, r), h⟩
  unfold gWhile
  rw [dif_pos hp]
  have h2 := Classical.choose_spec hp
  have a1 := whN_le h (Nat.le_max_left n (Classical.choose hp).1)
  have a2 := whN_le h2 (Nat.le_max_right n (Classical.choose hp).1)
  rw [a1] at a2
  exact a2.symm
theorem gWhile_by {c : DS → Option Bool} {b : DS → Option Res} (W : Nat → DS → Prop) (r : DS → Res → Prop) (m : Nat) (δ : DS) (h : W m δ)
    (hs : ∀ m δ, W m δ → (c δ = some false ∧ r δ (.nx δ)) ∨ (c δ = some true ∧ ((∃ δ' m', (b δ = some (.nx δ') ∨ b δ = some (.ct δ')) ∧ m' < m ∧ W m' δ' ∧ ∀ q, r δ' q → r δ q) ∨ (∃ δ', b δ = some (.bk δ') ∧ r δ (.nx δ')) ∨ ∃ d, b δ = some (.rt d) ∧ r δ (.rt d)))) :
    ∃ q, gWhile c b δ = some q ∧ r δ q := by
  suffices hh : ∀ k m δ, m < k → W m δ → ∃ n q, whN c b n δ = some q ∧ r δ q by
    obtain ⟨n, q, e, hq⟩ := hh (m + 1) m δ (Nat.lt_succ_self m) h
    exact ⟨q, gWhile_of e, hq⟩
  intro k
  induction k with
  | zero => intro m δ hm; omega
  | succ k ih =>
    intro m δ hm hW
    rcases hs m δ hW with ⟨hc, hr⟩ | ⟨hc, ⟨δ', m', hb, hlt, hW', imp⟩ | ⟨δ', hb, hr⟩ | ⟨d, hb, hr⟩⟩
    · exact ⟨1, _, by rw [whN, hc]; rfl, hr⟩
    · obtain ⟨n, q, e, hq⟩ := ih m' δ' (by omega) hW'
      refine ⟨n + 1, q, ?_, imp q hq⟩
      rw [whN, hc, Option.bind_some, if_pos rfl]
      rcases hb with hb | hb <;> rw [hb, Option.bind_some] <;> exact e
    · exact ⟨1, _, by rw [whN, hc, Option.bind_some, if_pos rfl, hb]; rfl, hr⟩
    · exact ⟨1, _, by rw [whN, hc, Option.bind_some, if_pos rfl, hb]; rfl, hr⟩
section
variable {X : Cx} {O : List Nat} {fr : Bool} {body : List Stmt} {gb : DS → Option Res} {gc : DS → Option Bool} {c : Expr} {pos : Pos}
theorem pd_while (hp : PassesOwn (model X.prog X.w) X.A X.env X.xe) (hc : PT X c (tT X.K O gc)) (hb : PSs X body (tS X.K O fr gb)) : PS X (.While c body [] pos) (tS X.K O fr (gWhile gc gb)) := (ps_while hp hc hb).mono fun E σ H ⟨H0, U, A0, δ, r, R, F, ed, P⟩ => by
  obtain ⟨n, en⟩ := gWhile_some ed
  refine ⟨fun m σ H => ∃ U δ, Rel X.K O U A0 σ δ H ∧ Fx H0 A0 U H ∧ whN gc gb m δ = some r, ⟨n, U, δ, R, F, en⟩, ?_⟩
  rintro m σ H ⟨U, δ, R, F, em⟩
  cases m with
  | zero => cases em
  | succ m =>
    rw [whN] at em
    obtain ⟨x, e1, e2⟩ := bind1 em
    refine ⟨U, A0, δ, x, R, e1, fun H' s => ?_⟩
    cases x with
    | false => rw [if_neg Bool.false_ne_true] at e2 ⊢; cases e2; exact P U σ H' (R.same s) (F.grow s)
    | true =>
      rw [if_pos rfl] at e2 ⊢
      obtain ⟨q, e3, e4⟩ := bind1 e2
      refine ⟨fun σ' H' => ∃ m', m' < m + 1 ∧ ∃ U δ, Rel X.K O U A0 σ' δ H' ∧ Fx H0 A0 U H' ∧ whN gc gb m' δ = some r, fun _ _ h => h, H0, U, A0, δ, q, R.same s, F.grow s, e3, ?_⟩
      cases q with
      | nx δ' => exact fun U' σ' H' R' F' => ⟨m, Nat.lt_succ_self m, U', δ', R', F', e4⟩
      | ct δ' => exact fun U' σ' H' R' F' => ⟨m, Nat.lt_succ_self m, U', δ', R', F', e4⟩
      | bk δ' => cases e4; exact P
      | rt d => cases e4; exact P
end
def gName' (i : Nat) : D → DS → Option DS := fun d δ => some (δ.set i (some d))
def gTupT (n : Nat) (g : List D → DS → Option DS) : D → DS → Option DS := fun d δ => match d with
  | .tuple ds => if ds.length = n then g ds δ else none
  | _ => none
def gNilT : List D → DS → Option DS := fun ds δ => if ds = [] then some δ else none
def gConsT (t : D → DS → Option DS) (u : List D → DS → Option DS) : List D → DS → Option DS := fun ds δ => match ds with
  | d :: r => (t d δ).bind fun δ' => u r δ'
  | [] => none
section
variable {X : Cx} {O : List Nat} {e : Expr} {es : List Expr} {pos : Pos}
theorem PGs.mono {t t' : TGs} (h : PGs X es t) (m : ∀ v σ H Q, t' v σ H Q → t v σ H Q) : PGs X es t' := fun pins s σ H v u Q I r q => h pins s σ H v u Q I r (m v σ H Q q)
theorem pd_gname {i : Nat} (h : PG X e (gName i)) (hi : i ∉ O := by decide) : PG X e (tG X.K O (gName' i)) := h.mono fun v σ H Q ⟨U, A0, δ, d, δ', R, hd, e1, q⟩ => by
  cases e1
  exact q _ (R.set hi hd)
end
def forD (t : D → DS → Option DS) (b : DS → Option Res) : List D → DS → Option Res
  | [], δ => some (.nx δ)
  | d :: ds, δ => (t d δ).bind fun δ1 => (b δ1).bind fun | .nx δ' => forD t b ds δ' | .ct δ' => forD t b ds δ' | .bk δ' => some (.nx δ') | .rt d => some (.rt d)
def gFor (gi : DS → Option (List D)) (t : D → DS → Option DS) (b : DS → Option Res) : DS → Option Res := fun δ => (gi δ).bind fun ds => forD t b ds δ
theorem RetR.trans {K : PySem.W.Frag} {fr : Bool} {H0 H H' : Hp} {A0 U : List Addr} {v : V} {d : D} (F : Fx H0 A0 U H) (h : RetR K fr (wo H U) A0 v d H') : RetR K fr H0 A0 v d H' := by
  have k : ∀ a o, H0 a = some o → wo H U a = some o := fun a o e => by
    rw [wo_out fun z => ?_]
    · exact F.same _ _ e
    · rw [F.new a z] at e; cases e
  unfold RetR at h ⊢
  split
  · rename_i hf
    rw [if_pos hf] at h
    obtain ⟨r, ob, a, c, e, f, g⟩ := h
    refine ⟨r, ob, a, fun x o q => c _ _ (k x o q), ?_, f, g⟩
    cases q : H0 r with
    | none => rfl
    | some o => rw [k r o q] at e; cases e
  · rename_i hf
    rw [if_neg hf] at h
    exact ⟨fun x o q => h.1 _ _ (k x o q), h.2⟩
section
variable {X : Cx} {O : List Nat} {fr : Bool} {body : List Stmt} {gb : DS → Option Res} {gi : DS → Option (List D)} {tg iter : Expr} {gt : D → DS → Option DS} {pos : Pos}
theorem pd_for (hp : PassesOwn (model X.prog X.w) X.A X.env X.xe) (hc : X.calm = true) (hi : PI X tg iter (tI X.K O gi)) (hg : PG X tg (tG X.K O gt)) (hb : PSs X body (tS X.K O fr gb))
    (hs : ∀ x, foldedSetIterable iter X.env x = pure x := by intro _; rfl) : PS X (.For tg iter body [] pos) (tS X.K O fr (gFor gi gt gb)) := (ps_for hp hc hi hg hb hs).mono fun E σ H ⟨H0, U, A0, δ, r, R, F, ed, P⟩ => by
  obtain ⟨ds, e1, e2⟩ := bind1 ed
  refine ⟨U, A0, δ, ds, R, e1, fun J H1 s hw => ?_⟩
  have F1 := F.grow s
  refine ⟨fun i m σ H => m = ds.length - i ∧ i ≤ ds.length ∧ ∃ U2 δ, Rel X.K O U2 A0 σ δ H ∧ Fx H0 A0 U2 H ∧ Fx (wo H1 U) A0 U2 H ∧ forD gt gb (ds.drop i) δ = some r, ⟨ds.length, by simp, Nat.zero_le _, U, δ, R.same s, F1, F1.here, by simpa using e2⟩, ?_⟩
  rintro i m σ H ⟨rfl, hle, U2, δ, R2, F2, G2, ef⟩
  obtain ⟨hgo, hstop⟩ := hw (U2 ++ A0) i H G2.keeps R2.al
  by_cases hlt : i < ds.length
  · obtain ⟨d, hd⟩ : ∃ d, ds[i]? = some d := ⟨_, List.getElem?_eq_getElem hlt⟩
    have hdrop : ds.drop i = d :: ds.drop (i + 1) := by
      rw [List.drop_eq_getElem_cons hlt]
      rw [List.getElem?_eq_getElem hlt] at hd
      cases hd; rfl
    obtain ⟨go, hy⟩ := hgo d hd
    rw [hdrop, forD] at ef
    obtain ⟨δ1, e3, e4⟩ := bind1 ef
    obtain ⟨q, e5, e6⟩ := bind1 e4
    refine .inr ⟨go, fun σ' H' => ∃ m', m' < ds.length - i ∧ (m' = ds.length - (i + 1) ∧ i + 1 ≤ ds.length ∧ ∃ U2 δ, Rel X.K O U2 A0 σ' δ H' ∧ Fx H0 A0 U2 H' ∧ Fx (wo H1 U) A0 U2 H' ∧ forD gt gb (ds.drop (i + 1)) δ = some r), fun _ _ h => h, fun x H2 y => ?_⟩
    obtain ⟨s2, hx⟩ := hy x H2 y
    refine ⟨U2, A0, δ, d, δ1, R2.same s2, hx, e3, fun σ' R' => ?_⟩
    have F3 := F2.grow s2
    have G3 := G2.grow s2
    refine ⟨wo H2 U2, U2, A0, δ1, q, R', F3.here, e5, ?_⟩
    cases q with
    | nx δ' => exact fun U' σ' H' R' F' => ⟨_, by omega, rfl, hlt, U', δ', R', F3.trans F', G3.trans F', e6⟩
    | ct δ' => exact fun U' σ' H' R' F' => ⟨_, by omega, rfl, hlt, U', δ', R', F3.trans F', G3.trans F', e6⟩
    | bk δ' => cases e6; exact fun U' σ' H' R' F' => P U' σ' H' R' (F3.trans F')
    | rt d => cases e6; exact fun v H' h => P v H' (h.trans F3)
  · have hi : i = ds.length := by omega
    subst hi
    rw [List.drop_length, forD] at ef
    cases ef
    exact .inl ⟨hstop rfl, P U2 σ H R2 F2⟩
end
def rangeD (lo : Int) (n : Nat) : List D := (List.range n).map fun k : Nat => PyData.int (lo + k)
theorem rangeD_get {lo : Int} {n i : Nat} {d : D} (h : (rangeD lo n)[i]? = some d) : i < n ∧ d = .int (lo + i) := by
  unfold rangeD at h
  rw [List.getElem?_map] at h
  cases e : (List.range n)[i]? with
  | none => rw [e] at h; cases h
  | some k =>
    rw [e] at h; cases h
    have hi := (List.getElem?_eq_some_iff.mp e).1
    rw [List.length_range] at hi
    rw [List.getElem?_range hi] at e
    cases e
    exact ⟨hi, rfl⟩
theorem rangeD_len {lo : Int} {n : Nat} : (rangeD lo n).length = n := by unfold rangeD; simp
theorem walks_range {K : PySem.W.Frag} {A : List Addr} {H1 : Hp} {lo : Int} {n : Nat} : Walks K A H1 (Itr lo n) (rangeD lo n) := by
  intro A' i H _ _
  refine ⟨fun d hd => ?_, fun hi => ?_⟩
  · obtain ⟨hi, rfl⟩ := rangeD_get hd
    refine ⟨hi, fun x H2 y => ?_⟩
    obtain ⟨rfl, rfl⟩ := y
    exact ⟨Same.refl _, .int _⟩
  · rw [rangeD_len] at hi
    subst hi
    exact Nat.le_refl _
def gRange1 (g : DS → Option (List D)) : DS → Option (List D) := fun δ => (g δ).bind fun | [.int j] => if -(2 ^ 62) ≤ j ∧ j < 2 ^ 62 then some (rangeD 0 j.toNat) else none | _ => none
def gItems (g : DS → Option D) : DS → Option (List D) := fun δ => (g δ).bind fun | .list l => some l | .tuple l => some l | _ => none
section
variable {X : Cx} {O : List Nat} {tg a b e : Expr} {gr : DS → Option (List D)} {ge : DS → Option D} {pos p : Pos}
theorem pd_range1 (hm : X.mg "range" = none) (ha : PA X [a] (tAs X.K O gr)) (hg : Gl X "range" := by rfl) (hs : starEach [a] X.env = [(false, eval a X.env)] := by rfl) : PI X tg (.Call (.Name "range" p) [a] [] pos) (tI X.K O (gRange1 gr)) := (pi_range1 hg hm ha hs).mono fun σ H Q ⟨U, A0, δ, ds, R, ed, q⟩ => by
  obtain ⟨x, e1, e2⟩ := bind1 ed
  refine ⟨U, A0, δ, x, R, e1, fun vs H' s h => ?_⟩
  split at e2
  · split at e2
    · rename_i hz
      cases e2
      cases h with
      | cons h1 h2 =>
        cases h2
        cases h1
        exact ⟨_, rfl, hz.1, hz.2, q _ H' s walks_range⟩
    · cases e2
  · cases e2
end
def captD (ix : List Nat) (δ : DS) : DS := ix.map fun j => (δ[j]?).join
section
variable {X : Cx} {O : List Nat} {fr : Bool} {scope : Scope} {x : Str} {elt iter : Expr} {px pos : Pos} {gi : DS → Option (List D)} {ge : DS → Option D}
end
def gOut : Res → Option D
  | .rt d => some d
  | .nx _ => some .none
  | _ => none
def gOutN : Res → Option (List D)
  | .rt (.list l) => some l
  | _ => none
def gDef (n : Nat) (g : DS → Option Res) : List D → Option D := fun ds => (g (ds.map some ++ List.replicate (n - ds.length) none)).bind gOut
theorem Rel.start {K : PySem.W.Frag} {O : List Nat} {A : List Addr} {N : List Str} {vs : List V} {ds : List D} {H : Hp} (al : Ls A H) (h : HDs K (wo H A) vs ds) (hO : ∀ i ∈ O, ds.length ≤ i) : Rel K O [] A (start N vs) (ds.map some ++ List.replicate (N.length - ds.length) none) H := by
  have hl := h.len
  have none_of : ∀ (i : Nat) d, ds.length ≤ i → (ds.map some ++ List.replicate (N.length - ds.length) none)[i]? = some (some d) → False := by
    intro i d hi q
    rw [List.getElem?_append_right (by simpa using hi)] at q
    have := List.mem_of_getElem? q
    rw [List.mem_replicate] at this
    exact absurd this.2 (by simp)
  exact {
    len := by unfold L2.start; simp [hl]
    fz := fun i d _ q => by
      by_cases hi : i < ds.length
      · rw [List.getElem?_append_left (by simpa using hi), List.getElem?_map, List.getElem?_eq_getElem hi] at q
        simp only [Option.map_some, Option.some.injEq] at q
        obtain ⟨v, e, hv⟩ := h.get (List.getElem?_eq_getElem hi)
        refine ⟨v, ?_, ?_⟩
        · unfold L2.start
          rw [List.getElem?_append_left (by rw [List.length_map]; omega), List.getElem?_map, e]; rfl
        · rw [List.nil_append, ← q]; exact hv
      · exact (none_of i d (by omega) q).elim
    ow := fun i d hi q => (none_of i d (hO i hi) q).elim
    inj := fun i j d e l hi _ _ q => (none_of i d (hO i hi) q).elim
    al := al }
theorem Fx.start {A : List Addr} {H : Hp} (al : Ls A H) : Fx H A [] H := ⟨Same.refl H, fun _ h => by simp at h, al⟩
section
variable {P : Program} {w : World} {K : PySem.W.Frag} {mg : Str → Option Value} {base : Heap} {x : Str} {st : Stmt} {N ps : List Str} {k : Nat}
theorem pd_def (O : List Nat) (g : DS → Option Res) (F : Df K mg x st ps) (S : FnScope N ps (defScope st))
    (body : ∀ (f : Addr) (cdv : Value) (A : Around) (outer : List Env) (s : Shared) (H : Hp) (E : XK), Room k (A.deeper (envOfC x (defScope st) s.heap.objs.size f cdv)) → PSs (cxOf CX0 P w K mg base N x (defScope st) f cdv A outer s H E).nox (defBody st) (tS K O false g))
    (hO : ∀ i ∈ O, ps.length ≤ i := by decide) {n m : Nat} (hN : N.length = n := by rfl) (hP : ps.length = m := by rfl) : Dn P w K mg base (k + 1) x ps (spD K m (gDef n g)) := by
  subst hN hP
  refine F.ok S (fun vs H Q E h => h.1) (fun f cdv A outer s H vs Q E hr h => ⟨_, body f cdv A outer s H E hr, ?_⟩)
  obtain ⟨hn, A', ds, d, al, hd, e, q⟩ := h
  obtain ⟨r, e1, e2⟩ := bind1 e
  refine ⟨H, [], A', _, r, Rel.start al hd (fun i hi => by have := hO i hi; rw [← hd.len, hn]; exact this), Fx.start al, e1, ?_⟩
  cases r with
  | nx δ => cases e2; exact fun U σ H' R F' => q .non H' F'.same .non
  | rt d => cases e2; exact fun v H' h => by unfold RetR at h; rw [if_neg Bool.false_ne_true] at h; exact q v H' h.1 h.2
  | bk _ => cases e2
  | ct _ => cases e2
theorem pd_fn {f : Addr} {fd : FuncData} (O : List Nat) (g : DS → Option Res) (F : Fun K x x st f fd) (S : FnScope N ps (defScope st))
    (body : ∀ (f : Addr) (cdv : Value) (A : Around) (outer : List Env) (s : Shared) (H : Hp) (E : XK), Room k (A.deeper (envOfC x (defScope st) s.heap.objs.size f cdv)) → PSs (cxOf CX0 P w K mg base N x (defScope st) f cdv A outer s H E).nox (defBody st) (tS K O false g))
    (hO : ∀ i ∈ O, ps.length ≤ i := by decide) {n m : Nat} (hN : N.length = n := by rfl) (hP : ps.length = m := by rfl) : FnOk P w K mg base CX0 (k + 1) f fd ps (spD K m (gDef n g)) := by
  subst hN hP
  refine F.ok S (fun vs H Q E h => h.1) (fun cdv A outer s H vs Q E hr h => ⟨_, body f cdv A outer s H E hr, ?_⟩)
  obtain ⟨hn, A', ds, d, al, hd, e, q⟩ := h
  obtain ⟨r, e1, e2⟩ := bind1 e
  refine ⟨H, [], A', _, r, Rel.start al hd (fun i hi => by have := hO i hi; rw [← hd.len, hn]; exact this), Fx.start al, e1, ?_⟩
  cases r with
  | nx δ => cases e2; exact fun U σ H' R F' => q .non H' F'.same .non
  | rt d => cases e2; exact fun v H' h => by unfold RetR at h; rw [if_neg Bool.false_ne_true] at h; exact q v H' h.1 h.2
  | bk _ => cases e2
  | ct _ => cases e2
end
end L2
namespace L2
open PySem PySem.Spec PyProof.Rows
def gChain (f f' : D → D → Option D) (a b c : DS → Option D) : DS → Option D := fun δ => (a δ).bind fun x => (b δ).bind fun y => (f x y).bind fun z => match z with
  | .bool true => (c δ).bind fun w => f' y w
  | .bool false => some (.bool false)
  | _ => none
section
variable {X : Cx} {O : List Nat} {a b c : Expr} {ga gb gc : DS → Option D} {pos : Pos} {r r' : R2}
end
def gPar (i j : Nat) (g : DS → Option (List D)) : DS → Option Res := fun δ => (g δ).bind fun | [x, y] => some (.nx ((δ.set i (some x)).set j (some y))) | _ => none
section
variable {X : Cx} {O : List Nat} {fr : Bool} {st : Stmt} {gr : DS → Option (List D)} {i j : Nat}
theorem pd_par (h : PS X st (tPar i j (tAs X.K O gr))) (hi : i ∉ O := by decide) (hj : j ∉ O := by decide) : PS X st (tS X.K O fr (gPar i j gr)) := h.mono fun E σ H ⟨H0, U, A0, δ, r, R, F, ed, P⟩ => by
  obtain ⟨ds, e1, e2⟩ := bind1 ed
  split at e2
  · cases e2
    refine ⟨U, A0, δ, _, R, e1, fun vs H' s hv => ?_⟩
    cases hv with
    | cons h1 h2 => cases h2 with
      | cons h2 h3 =>
        cases h3
        exact ⟨_, _, rfl, P U _ H' (((R.same s).set hi h1).set hj h2) (F.grow s)⟩
  · cases e2
end
def dBits : D → Option D
  | .int i => some (.int (Builtin.Int.intBits i : Nat))
  | _ => none
theorem pd_bits {X : Cx} {O : List Nat} {o : Expr} {ga : DS → Option D} {apos cpos : Pos} (ho : PE X o (tSh X.K O ga)) (hbase : attributeBase o "bit_length" X.env (eval o X.env) = eval o X.env := by rfl) (hline : (apos.endLine == cpos.line) = true := by rfl) :
    PE X (.Call (.Attribute o "bit_length" apos) [] [] cpos) (tE X.K O (g1 dBits ga)) := (pe_bits ho hbase hline).mono fun σ H Q ⟨U, A0, δ, d, R, ed, q⟩ => by
  obtain ⟨x, e1, e2⟩ := bind1 ed
  cases x with
  | int i =>
    cases e2
    refine ⟨U, A0, δ, _, R, e1, fun v H' s h => ?_⟩
    rw [h.int]
    exact ⟨rfl, i, rfl, rfl, q _ H' s (.int _)⟩
  | _ => cases e2
noncomputable abbrev dShr : D → D → Option D := dIc (fun _ j => 0 ≤ j) fun i j => .int (i / 2 ^ j.toNat)
def dV : D → V
  | .none => .non
  | .bool b => .bl b
  | .int i => .int i
  | .str x => .str x
  | _ => .non
section
variable {X : Cx}
end
def gCallShN (G : List D → Option (List D)) (n : Nat) (g : DS → Option (List D)) : DS → Option (List D) := fun δ => (g δ).bind fun ds => if ds.length = n then (G ds).bind fun d => if noLs d = true then some d else none else none
section
variable {X : Cx} {O : List Nat} {fr : Bool} {st : Stmt} {ge gx : DS → Option D} {gl : DS → Option (List D)} {i : Nat}
end
end L2
namespace L2
open PySem PySem.Spec PyProof.Rows
section
variable {X : Cx} {O : List Nat} {tg a : Expr} {ge : DS → Option D} {p pos : Pos}
def gReversed (g : DS → Option D) : DS → Option (List D) := fun δ => (g δ).bind fun | .list l => some l.reverse | _ => none
end
end L2
namespace L2
open PySem PySem.Spec PyProof.Rows
section
variable {X : Cx} {pins : List (Addr × Obj)} {σ : St} {H : Hp} {s : Shared} {h' : Heap}
end
section
variable {X : Cx} {O : List Nat} {a : Expr} {ge : DS → Option D} {p pos : Pos} {es : List Expr} {kk} {tpos : Pos}
end
def WalksS (K : PySem.W.Frag) (A : List Addr) (H1 : Hp) (J : It) (ds : List D) : Prop := ∀ (i : Nat) (H : Hp), Same H1 H →
  (∀ d, ds[i]? = some d → J.go i H ∧ ∀ x H2, J.yld i H x H2 → Same H H2 ∧ HD K (wo H2 A) x d) ∧ (i = ds.length → J.stop i H)
def tIc (K : PySem.W.Frag) (O : List Nat) (g : DS → Option (List D)) : TI := fun σ H R => ∃ U A0 δ ds, Rel K O U A0 σ δ H ∧ g δ = some ds ∧ ∀ J H1, Same H H1 → WalksS K (U ++ A0) H1 J ds → R J H1
section
variable {X : Cx} {O : List Nat} {tg e : Expr} {gi : DS → Option (List D)} {ge : DS → Option D} {pos : Pos}
theorem PI.c (h : PI X tg e (tI X.K O gi)) : PI X tg e (tIc X.K O gi) := h.mono fun σ H Q ⟨U, A0, δ, ds, R, ed, q⟩ => ⟨U, A0, δ, ds, R, ed, fun J H1 s hw => q J H1 s fun i H2 s2 => hw (U ++ A0) i H2 (wo_mono s2) ((R.same (s.trans s2)).al)⟩
end
section
variable {X : Cx} {O : List Nat} {fr : Bool} {scope : Scope} {x : Str} {elt iter : Expr} {px pos : Pos} {gi : DS → Option (List D)} {ge : DS → Option D}
end
end L2
namespace LS
open PySem PySem.Spec PyProof.Rows
section
variable {prog : Program} {w : World} {A : Around} {E : Value → Shared → Prop} {s : Shared} {it t : Addr} {i : Nat} {items : Array Value}
end
set_option maxHeartbeats 1000000 in
theorem newT (l : Addr) (items : Array Value) (n : Nat) (dct : Option Addr) (sl : Array (Option Value)) :
    Meets (Builtin.«enumerate.__new__» ⟨[.type "enumerate", .ref l], []⟩) (fun _ R s => s.heap.get? l = some { cls := .type "tuple", dict := dct, data := .seq items n, slots := sl } ∧
      R (.ok (.ret (.ref (s.heap.push { cls := .type "tuple_iterator", data := .fields #[.ref l, .int 0 0] }).objs.size)))
        { s with heap := (s.heap.push { cls := .type "tuple_iterator", data := .fields #[.ref l, .int 0 0] }).push { cls := .type "enumerate", data := .fields #[.none, .bool false, .ref s.heap.objs.size, rawInt 0, .none, .none] } }) :=
  .of_wp fun prog w A R s h => by
    obtain ⟨hp, g, d, tk, os⟩ := s; obtain ⟨hl, h⟩ := h
    have hsub := sub_enumerate
    have hL : Heap.IsTuple (Shared.heap ⟨hp, g, d, tk, os⟩) l items := ⟨_, hl, rfl, n, rfl⟩
    wp_walk using AutoSeq1.wpAny_loadPart' hl
    refine wpAny_stack_any fun st => wpAny_pure ?_
    split
    · rename_i c _ _ _ _ _
      cases (c == Value.type "enumerate")
      · wp_walk using AutoSeq1.wpAny_loadPart' hl, wpAny_pyIter_tuple hL
        exact ⟨_, rfl, h⟩
      · wp_walk using AutoSeq1.wpAny_loadPart' hl, wpAny_pyIter_tuple hL
        exact ⟨_, rfl, h⟩
    · wp_walk using AutoSeq1.wpAny_loadPart' hl, wpAny_pyIter_tuple hL
      exact ⟨_, rfl, h⟩
section
variable {prog : Program} {w : World} {A : Around} {E : Value → Shared → Prop} {s : Shared}
end
end LS
namespace LS
open PySem
def Ris (l : List Nat) : Prop := l.Pairwise (· < ·)
end LS
namespace LS
open PySem PyProof.Rows
def ISet (prog : Program) (w : World) (h : Heap) (a : Addr) (led : Bool) (ns : List Int) : Prop := ∃ o es ep t, h.get? a = some o ∧ o.ExactSet ∧ o.data = .set es ep t ∧ ElemsOf (intKind prog w) es.toList ∧
  IntsAre (es.toList.map (·.2)) ns ∧ ns.Nodup ∧ es.size < scanBound ∧ t.fits es.size = true ∧ t.led = led ∧ Ris t.place.toList
section
variable {prog : Program} {w : World} {A : Around} {E : Value → Shared → Prop} {s : Shared} {a : Addr} {led : Bool} {ns : List Int}
theorem ISet.keeps {h h' : Heap} (x : ISet prog w h a led ns) (k : ∀ o, h.get? a = some o → h'.get? a = some o) : ISet prog w h' a led ns := by
  obtain ⟨o, es, ep, t, ho, r⟩ := x
  exact ⟨o, es, ep, t, k o ho, r⟩
end
end LS
namespace LS
open PySem PySem.Spec PyProof.Rows
section
variable {prog : Program} {w : World} {A : Around} {E : Value → Shared → Prop} {s : Shared}
end
section
variable {prog : Program} {w : World} {A : Around} {R : Result → Shared → Prop} {I : Addr} {fp wr : List Addr} {G : Array GenState → Array GenState → Prop} {n : Nat} {P : Nat → Value → Prop} {St : Nat → Shared → Prop} {led : Bool}
end
section
variable {prog : Program} {w : World} {A : Around} {E : Value → Shared → Prop} {s : Shared}
structure RowSrc (prog : Program) (w : World) (h : Heap) (r : Addr) (items : Array Value) (T : String) (oI : Obj) (St : Addr → Nat → Heap → Prop) : Prop where
  ty : ∃ o, h.get? r = some o ∧ o.cls = .type T
  sub1 : isSubtype (.type T) (.type "set") = pure false
  sub2 : isSubtype (.type T) (.type "frozenset") = pure false
  nd : (Value.type T == Value.type "dict") = false
  iter : ∀ (A' : Around) (s' : Shared) (Q : Value → Shared → Prop) (E : Value → Shared → Prop), (∀ o, h.get? r = some o → s'.heap.get? r = some o) → Q (.ref s'.heap.objs.size) { s' with heap := s'.heap.push oI } → wpAny (model prog w) A' (pyIter (.ref r)) Q E s'
  walk : ∀ (A' : Around) (I : Addr), A'.handled = none → r ≠ I → Walks prog w A' I [I, r] [I] items.size (fun i v => items[i]? = some v) (St I)
  st : ∀ h' : Heap, (∀ o, h.get? r = some o → h'.get? r = some o) → St h'.objs.size 0 (h'.push oI)
end
end LS
namespace LS
open PySem PyProof.Rows
set_option maxRecDepth 100000
def IsSI (h : Heap) (it a : Addr) (first : Value) (i n ep : Nat) : Prop := ∃ o, h.get? it = some o ∧ o.cls = .type "set_iterator" ∧ o.data = .fields #[first, .int i 0, .ref a, .int n 0, .int ep 0]
section
variable {prog : Program} {w : World} {A : Around} {E : Value → Shared → Prop} {s : Shared} {it a : Addr} {first : Value} {i n ep : Nat}
theorem IsSI.at {h h' : Heap} (x : IsSI h it a first i n ep) (k : ∀ o, h.get? it = some o → h'.get? it = some o) : IsSI h' it a first i n ep := let ⟨o, e, r⟩ := x; ⟨o, k o e, r⟩
theorem IsSI.typeIs (x : IsSI s.heap it a first i n ep) : s.TypeIs (.ref it) "set_iterator" := let ⟨o, e, c, _⟩ := x; ⟨o, e, c⟩
def SetAt (h : Heap) (a : Addr) (es : Array (Int × Value)) (ep : Nat) (t : SetTable) : Prop := ∃ o, h.get? a = some o ∧ o.ExactSet ∧ o.data = .set es ep t
theorem SetAt.at {h h' : Heap} {es : Array (Int × Value)} {t : SetTable} (x : SetAt h a es ep t) (k : ∀ o, h.get? a = some o → h'.get? a = some o) : SetAt h' a es ep t := let ⟨o, e, r⟩ := x; ⟨o, k o e, r⟩
variable {es : Array (Int × Value)} {t : SetTable} {slot : Nat}
end
end LS
namespace LS
open PySem PySem.Spec PyProof.Rows
section
variable {prog : Program} {w : World} {A : Around} {E : Value → Shared → Prop} {s : Shared} {it a : Addr} {first : Value} {i n ep : Nat} {es : Array (Int × Value)} {t : SetTable}
end
end LS
namespace LS
open PySem PySem.Spec PySem.Calls PyProof.Rows
section
variable {prog : Program} {w : World} {A : Around} {E : Value → Shared → Prop} {s : Shared} {a : Addr} {ns : List Int}
end
end LS
namespace L2
open PySem PySem.Spec PyProof.Rows LS
def ins (x : Int) : List Int → List Int
  | [] => [x]
  | y :: l => if x < y then x :: y :: l else if x = y then y :: l else y :: ins x l
section
variable {X : Cx} {pins : List (Addr × Obj)} {σ : St} {H : Hp} {s : Shared}
end
end L2
namespace L2
open PySem PySem.Spec PyProof.Rows
section
variable {prog : Program} {w : World} {A : Around} {R : Result → Shared → Prop} {s : Shared}
end
def PF (X : Cx) (ifs : List Expr) (t : TT) : Prop :=
  ∀ (pins : List (Addr × Obj)) (s : Shared) (σ : St) (H : Hp) (Q : Bool → Hp → Prop), Inv X pins σ H s → t σ H Q →
    wpAny (model X.prog X.w) X.A (forIn ifs true fun c r => if r = true then do let ok ← isTrue c X.env (eval c X.env); pure (ForInStep.yield ok) else pure (ForInStep.yield r)) (TP X pins σ Q) X.xe s
section
variable {X : Cx}
structure CompScL (X : Cx) (scope : Scope) (xs : List Str) (ix : List Nat) (N' : List Str) : Prop where
  kind : scope.kind = .function
  nocell : ∀ y ∈ scope.names, y.2 ≠ .cell
  names : ∀ y ∈ scope.names, y.2 = .local → scope.names.lookup y.1 = some .local
  free : ∀ y ∈ scope.names, y.2 = .free → X.env.kindOf y.1 = some .cell ∨ X.env.kindOf y.1 = some .free
  only : ∀ n, (X.env.scope.kind = .function) → ((relabel scope X.env).names.lookup n = some .cell ∨ (relabel scope X.env).names.lookup n = some .free) → (n, NameKind.free) ∈ scope.names
  nm : N' = xs ++ ix.map fun j => X.N.getD j ""
  ixs : ∀ j ∈ ix, j < X.N.length ∧ (X.N.getD j "", NameKind.free) ∈ scope.names ∧ ((relabel scope X.env).names.lookup (X.N.getD j "") = some .cell ∨ (relabel scope X.env).names.lookup (X.N.getD j "") = some .free)
section
variable {scope : Scope} {xs : List Str} {ix : List Nat} {N' : List Str} {cl : List (Str × Addr)} {C : Addr} {s2 s3 : Shared} {H2 : Hp} {fp : List Addr} {pins : List (Addr × Obj)} {σ : St}
end
section
variable {scope : Scope} {xs : List Str} {ix : List Nat} {N' : List Str} {elt iter tg : Expr} {ifs : List Expr} {pos : Pos} {wi : TI} {te : TE} {tc : TT} {g : TG}
end
end
end L2
namespace L2
open PySem PySem.Spec PyProof.Rows LS
section
variable {K : PySem.W.Frag} {O : List Nat} {U A0 : List Addr} {σ : St} {δ : DS} {H H1 : Hp}
end
section
variable {X : Cx} {O : List Nat} {fr : Bool} {scope : Scope} {elt iter tg : Expr} {ifs : List Expr} {pos : Pos} {gi : DS → Option (List D)} {ge : DS → Option D} {gt : D → DS → Option DS} {gc : DS → Option Bool} {k : Nat}
theorem PF.mono {t t' : TT} (h : PF X ifs t) (m : ∀ σ H Q, t' σ H Q → t σ H Q) : PF X ifs t' := fun pins s σ H Q I q => h pins s σ H Q I (m σ H Q q)
end
section
variable {X : Cx}
end
section
variable {X : Cx} {O : List Nat} {a : Expr} {ge : DS → Option D} {p pos : Pos} {es : List Expr} {kk} {tpos : Pos}
end
end L2
namespace L2
open PySem PySem.Spec PyProof.Rows
def keyOf1 : D → Option Key
  | .int i => some (.inl i)
  | .str x => some (.inr x)
  | _ => none
def keysOf : List D → Option (List Key)
  | [] => some []
  | d :: ds => (keyOf1 d).bind fun k => (keysOf ds).bind fun ks => some (k :: ks)
def keyOf : D → Option (List Key)
  | .tuple ds => keysOf ds
  | _ => none
theorem keysOf_map : ∀ k : List Key, keysOf (k.map keyD) = some k
  | [] => rfl
  | .inl i :: k => by rw [List.map_cons, keysOf, keysOf_map k]; rfl
  | .inr i :: k => by rw [List.map_cons, keysOf, keysOf_map k]; rfl
theorem keysOf_vs {K : PySem.W.Frag} {H : Hp} : ∀ {xs : List V} {ds : List D} {k : List Key}, HDs K H xs ds → keysOf ds = some k → xs = k.map kV
  | _, _, _, .nil, e => by cases e; rfl
  | _, _, _, .cons h t, e => by
    rw [keysOf] at e
    obtain ⟨a, e1, e2⟩ := bind1 e
    obtain ⟨b, e3, e4⟩ := bind1 e2
    cases e4
    rw [keysOf_vs t e3, List.map_cons]
    cases h with
    | int i => cases e1; rfl
    | str x => cases e1; rfl
    | _ => cases e1
def dLook (kds : List (D × D)) (k : List Key) : Option D := (kds.find? fun p => decide (keyOf p.1 = some k)).map (·.2)
theorem dLook_pos {p : D × D} {r : List (D × D)} {k : List Key} (e : keyOf p.1 = some k) : dLook (p :: r) k = some p.2 := by simp [dLook, List.find?_cons, e]
theorem dLook_neg {p : D × D} {r : List (D × D)} {k : List Key} (e : ¬ keyOf p.1 = some k) : dLook (p :: r) k = dLook r k := by simp [dLook, List.find?_cons, e]
inductive DK (K : PySem.W.Frag) (H : Hp) : List (List Key × V) → List (D × D) → Prop
  | nil : DK K H [] []
  | cons {k : List Key} {v : V} {d : D} {r : List (List Key × V)} {s : List (D × D)} : HD K H v d → DK K H r s → DK K H ((k, v) :: r) ((.tuple (k.map keyD), d) :: s)
section
variable {K : PySem.W.Frag} {H H' : Hp} {A : List Addr}
theorem DK.of : ∀ {kvs : List (List Key × V)} {kds : List (D × D)}, kds.map (·.1) = kvs.map (fun p => PyData.tuple (p.1.map keyD)) → HDs K H (kvs.map (·.2)) (kds.map (·.2)) → DK K H kvs kds
  | [], [], _, _ => .nil
  | [], _ :: _, e, _ => by simp at e
  | _ :: _, [], e, _ => by simp at e
  | (k, v) :: r, (x, d) :: s, e, h => by
    simp only [List.map_cons, List.cons.injEq] at e
    obtain ⟨e1, e2⟩ := e
    subst e1
    cases h with
    | cons h1 h2 => exact .cons h1 (DK.of e2 h2)
theorem DK.keys : ∀ {kvs : List (List Key × V)} {kds : List (D × D)}, DK K H kvs kds → kds.map (·.1) = kvs.map (fun p => PyData.tuple (p.1.map keyD))
  | _, _, .nil => rfl
  | _, _, .cons _ t => by rw [List.map_cons, List.map_cons, DK.keys t]
theorem DK.vals : ∀ {kvs : List (List Key × V)} {kds : List (D × D)}, DK K H kvs kds → HDs K H (kvs.map (·.2)) (kds.map (·.2))
  | _, _, .nil => .nil
  | _, _, .cons h t => .cons h (DK.vals t)
theorem DK.own {kvs : List (List Key × V)} {kds : List (D × D)} (h : DK K H kvs kds) : OwO K H (.dT kvs) (.dict kds) := .dct h.keys h.vals
theorem DK.same {kvs : List (List Key × V)} {kds : List (D × D)} (s : Same H H') (h : DK K H kvs kds) : DK K H' kvs kds := DK.of h.keys (h.vals.same s)
theorem DK.len : ∀ {kvs : List (List Key × V)} {kds : List (D × D)}, DK K H kvs kds → kvs.length = kds.length
  | _, _, .nil => rfl
  | _, _, .cons _ t => by rw [List.length_cons, List.length_cons, DK.len t]
theorem DK.look (k : List Key) : ∀ {kvs : List (List Key × V)} {kds : List (D × D)}, DK K H kvs kds → (∀ d, dLook kds k = some d → ∃ v, valV kvs k = some v ∧ HD K H v d) ∧ (dLook kds k = none → valV kvs k = none)
  | _, _, .nil => ⟨fun d e => (by cases e), fun _ => rfl⟩
  | _, _, .cons (k := j) (v := v) (d := d) (r := r) (s := s) h t => by
    have hj : keyOf (.tuple (j.map keyD)) = some j := keysOf_map j
    by_cases e : j = k
    · subst e
      rw [dLook_pos (p := (PyData.tuple (j.map keyD), d)) hj, valV_pos (p := (j, v)) rfl]
      exact ⟨fun d' q => by cases q; exact ⟨v, rfl, h⟩, fun q => by cases q⟩
    · rw [dLook_neg (p := (PyData.tuple (j.map keyD), d)) (by rw [hj]; exact fun z => e (Option.some.inj z)), valV_neg (p := (j, v)) e]
      exact DK.look k t
theorem DK.app : ∀ {a : List (List Key × V)} {b : List (D × D)} {a' : List (List Key × V)} {b' : List (D × D)}, DK K H a b → DK K H a' b' → DK K H (a ++ a') (b ++ b')
  | _, _, _, _, .nil, q => q
  | _, _, _, _, .cons h t, q => .cons h (DK.app t q)
theorem ShD.key {y : V} {d : D} {k : List Key} (h : ShD K A H y d) (e : keyOf d = some k) : ∃ b, y = .ref b ∧ TupT H b (k.map kV) := by
  cases d with
  | tuple ds =>
    obtain ⟨b, ys, rfl, hb, hd⟩ := h.tupH
    exact ⟨b, rfl, by rw [← keysOf_vs hd e]; exact hb⟩
  | _ => cases e
end
section
variable {X : Cx} {O : List Nat} {fr : Bool} {st : Stmt} {gd gk ge : DS → Option D} {gl : DS → Option (List (D × D))} {o i e f value : Expr} {pos apos cpos : Pos}
end
end L2
namespace L2
open PySem PySem.Spec PyProof.Rows
section
variable {X : Cx} {O : List Nat} {e : Expr}
theorem pd_ct {p : Addr} {xs : List V} {ds : List D} (h : PE X e (tC (.ref p))) (m : (p, xs) ∈ cstTab) (hd : ∀ H, HDs X.K H xs ds) : PE X e (tE X.K O (gC (.tuple ds))) := h.mono fun σ H Q ⟨U, A0, δ, d, R, ed, q⟩ => by
  cases ed
  exact q (.ref p) H (Same.refl H) (.tup (tup_off (R.al.2 p xs m) R.al) (hd _))
end
theorem lk_mem : ∀ {l : List (Addr × List V)} {p : Addr} {xs : List V}, l.lookup p = some xs → (p, xs) ∈ l
  | [], _, _, h => by cases h
  | (q, ys) :: l, p, xs, h => by
    rw [List.lookup_cons] at h
    by_cases e : p = q
    · subst e
      rw [beq_self_eq_true] at h
      cases h
      exact List.mem_cons_self
    · rw [show (p == q) = false by simpa using e] at h
      exact List.mem_cons_of_mem _ (lk_mem h)
def offC (K0 : PySem.W.Frag) : PySem.W.Frag := K0.filter fun q => (cstTab.lookup q.1).isNone
theorem off_look (b : Addr) : ∀ K0 : PySem.W.Frag, (offC K0).lookup b = if (cstTab.lookup b).isNone = true then K0.lookup b else none
  | [] => by simp [offC]
  | (c, o) :: r => by
    have ih := off_look b r
    unfold offC at ih ⊢
    rw [List.filter_cons]
    by_cases e : b = c
    · subst e
      by_cases q : (cstTab.lookup b).isNone = true
      · rw [if_pos q, if_pos q, List.lookup_cons, List.lookup_cons]; simp
      · rw [if_neg q, if_neg q]; rw [if_neg q] at ih; exact ih
    · have e' : (b == c) = false := by simpa using e
      rw [List.lookup_cons, e']
      by_cases q : (cstTab.lookup c).isNone = true
      · rw [if_pos q, List.lookup_cons, e']; exact ih
      · rw [if_neg q]; exact ih
structure CstOk (K0 : PySem.W.Frag) : Prop where
  one : ∀ p xs, (p, xs) ∈ cstTab → cstTab.lookup p = some xs
  tup : ∀ p xs, cstTab.lookup p = some xs → ∃ (od : Option Addr) (its : Array Value) (n : Nat) (sl : Array (Option Value)), K0.lookup p = some ⟨.type "tuple", od, .seq its n, sl⟩ ∧ xs.length ≤ sizeLine ∧ Vals xs its.toList
theorem CstOk.look {K0 : PySem.W.Frag} (C : CstOk K0) {b : Addr} {o : Obj} (h : K0.lookup b = some o) (n : ∀ its n, o.data ≠ .seq its n) : (offC K0).lookup b = some o := by
  rw [off_look]
  cases q : cstTab.lookup b with
  | none => exact h
  | some xs =>
    obtain ⟨od, its, k, sl, e, _⟩ := C.tup b xs q
    rw [h] at e; cases e
    exact absurd rfl (n its k)
theorem CstOk.func {K0 : PySem.W.Frag} (C : CstOk K0) {x qual : Str} {st : Stmt} {f : Addr} {fd : FuncData} (F : Fun K0 x qual st f fd) : Fun (offC K0) x qual st f fd := by
  obtain ⟨⟨oc, od, kV, doc, pm, an, cdv, ct, osl, e1, e2, e3⟩, kp⟩ := F
  have e2' := C.look e2 (fun its n z => by cases z)
  refine ⟨⟨oc, od, kV, doc, pm, an, cdv, ct, osl, e1, e2', ?_⟩, ?_⟩
  · unfold PySem.W.codeIn at e3 ⊢
    cases cdv with
    | ref c =>
      simp only at e3 ⊢
      cases q : K0.lookup c with
      | none => rw [q] at e3; exact absurd e3 (by simp)
      | some ob =>
        obtain ⟨c1, c2, dt, c4⟩ := ob
        rw [q] at e3
        cases dt with
        | fields vs => rw [C.look q (fun its n z => by cases z)]; exact e3
        | _ => exact absurd e3 (by simp)
    | _ => exact e3
  · unfold PySem.W.keepIn
    simp only [e2']
def Hc (K0 : PySem.W.Frag) : Hp := fun b => match cstTab.lookup b with
  | some xs => (K0.lookup b).map fun ob => HO.frz ob (.tup xs)
  | none => none
theorem law_callC {P : Program} {w : World} {K0 : PySem.W.Frag} {mg mb : Str → Option Value} {CX : CXT} {k : Nat} {fa a : Addr} {fd : FuncData} {x : Str} {sp : Sp} {s₁ : Shared} {vs : List Value} {ns : List Int} (C : CstOk K0)
    (KX : K0.In s₁.heap) (hns : s₁.heap.Ns mainGlobals mg) (hb : s₁.heap.Ns builtinsNs mb) (hbb : ∀ x : Str, x ≠ "__name__" → mb x = bootBuiltins x) (hlim : s₁.heap.NoLimit) (hg : s₁.gens = #[])
    (ha : s₁.heap.get? a = some { cls := .type "list", data := .seq vs.toArray }) (hi : IntsAre vs ns) (hl : ns.length ≤ sizeLine) (hr : Room k callerA)
    (F : ∀ base : Heap, (offC K0).In base → base.Ns mainGlobals mg → FnOk P w (offC K0) mg base CX k fa fd [x] sp) (hbind : ∀ (s : Shared) (u : Value), BindsTo s fd ⟨[u], []⟩ [(x, u)])
    (hsp : ∀ H : Hp, LsD (offC K0) H a (ns.map V.int) → (∀ p xs, (p, xs) ∈ cstTab → TupT H p xs) → sp [.ref a] H (fun v _ => v = .bl true) fun _ _ _ => False)
    (hCX : ∀ H e s', CX [] H s₁ (fun _ _ _ => False) e s' → False) :
    codeAny (model P w) callerA (.call (.ref fa) ⟨[.ref a], []⟩) (fun r s' => r = .ok (.ret (.bool true)) ∧ OldK s₁.heap s'.heap ∧ s'.os = s₁.os ∧ AllBare s'.gens) s₁ := by
  have rv := vals_ints hi
  have lenV := hi.length
  have core : ∀ H : Hp, (∀ b, H b = none ∨ ∃ o u, H b = some (.frz o u)) → LsD (offC K0) H a (ns.map V.int) → HOk P w H s₁.heap → (∀ p xs, (p, xs) ∈ cstTab → TupT H p xs) → (∀ b o es ep, H b ≠ none → s₁.heap.get? b = some o → o.data ≠ .dict es ep) → (∀ b, H b ≠ none → (offC K0).lookup b = none) →
      codeAny (model P w) callerA (.call (.ref fa) ⟨[.ref a], []⟩) (fun r s' => r = .ok (.ret (.bool true)) ∧ OldK s₁.heap s'.heap ∧ s'.os = s₁.os ∧ AllBare s'.gens) s₁ := by
    intro H hO hS hok hT hD hK
    have base_of : ∀ {b : Addr} {o : Obj}, s₁.heap.get? b = some o → H b = none → (hidT s₁.heap H).get? b = some o := fun e n => hidT_get e n
    have noA : ∀ {b : Addr} {o : Obj} {es : Array DictEntry} {ep : Nat}, s₁.heap.get? b = some o → o.data = .dict es ep → H b = none := fun {b o es ep} e d => by
      cases q : H b with
      | none => rfl
      | some u => exact absurd d (hD b o es ep (by rw [q]; simp) e)
    have nsK : ∀ {b : Addr} {m : Str → Option Value}, s₁.heap.Ns b m → (hidT s₁.heap H).Ns b m := fun {b m} ⟨o, es, ep, e, d, r⟩ => ⟨o, es, ep, base_of e (noA e d), d, r⟩
    have hKb : (offC K0).In (hidT s₁.heap H) := fun b o e => by
      have e0 : K0.lookup b = some o := by
        rw [off_look] at e
        split at e
        · exact e
        · cases e
      refine base_of (KX b o e0) ?_
      cases q : H b with
      | none => rfl
      | some u => rw [hK b (by rw [q]; simp)] at e; cases e
    have hM : Mod (offC K0) mg (hidT s₁.heap H) := ⟨hKb, nsK hns, ⟨mb, nsK hb, hbb⟩, let ⟨mc, h1, h2⟩ := hlim; ⟨mc, nsK h1, h2⟩⟩
    have e0 : Env0 P w (offC K0) mg (hidT s₁.heap H) callerA [] s₁ H := ⟨rfl, hM, fun b o e => of_hidT e, Nat.le_of_eq (hidT_size _ _), trivial, fun b hb => absurd (show b ∈ ([] : List Addr) from hb) (by simp), hok, .of_eq hg⟩
    refine codeAny_mono ((F _ hKb (nsK hns)).run callerA [] s₁ H ⟨[.ref a], []⟩ [.ref a] [.ref a] _ _ hr e0 (hbind s₁ (.ref a)) (.cons rfl .nil) (hsp H hS hT)) fun r s' h => ?_
    cases r with
    | error e => exact (hCX H e s' h).elim
    | ok fl =>
      cases fl with
      | next => exact False.elim h
      | brk => exact False.elim h
      | cont => exact False.elim h
      | ret u =>
        obtain ⟨v, H', os, bare, un, hok', r', q⟩ := h
        have q' : v = .bl true := q
        subst q'
        obtain rfl : u = Value.bool true := r'
        refine ⟨rfl, OldK.of_keep fun b o e => ?_, os, bare⟩
        cases q : H b with
        | none => exact un.keep b o e q (by intro z; exact absurd (show b ∈ ([] : List Addr) from z) (by simp)) (by simp)
        | some u =>
          rcases hO b with z | ⟨ob, xs, z⟩
          · rw [q] at z; cases z
          · have z2 := un.frzs b ob _ z
            obtain ⟨e1, _⟩ := hok b _ z
            obtain ⟨e2, _⟩ := hok' b _ z2
            rw [e] at e1; cases e1
            exact e2
  have hc1 : ∀ b, Hc K0 b = none ∨ ∃ ob xs od its n sl, Hc K0 b = some (.frz ob (.tup xs)) ∧ cstTab.lookup b = some xs ∧ K0.lookup b = some ob ∧ ob = ⟨.type "tuple", od, .seq its n, sl⟩ ∧ xs.length ≤ sizeLine ∧ Vals xs its.toList := by
    intro b
    unfold Hc
    cases q : cstTab.lookup b with
    | none => exact .inl rfl
    | some xs =>
      obtain ⟨od, its, n, sl, e, h1, h2⟩ := C.tup b xs q
      refine .inr ⟨_, xs, od, its, n, sl, ?_, rfl, e, rfl, h1, h2⟩
      show (K0.lookup b).map _ = _
      rw [e]; rfl
  have hcO : ∀ (H : Hp) b ob u, Hc K0 b = some (.frz ob u) → ObjOk P w H s₁.heap b (.frz ob u) := fun H b ob u e => by
    rcases hc1 b with z | ⟨ob', xs, od, its, n, sl, z, _, z2, rfl, z3, z4⟩
    · rw [z] at e; cases e
    · rw [z] at e; cases e
      have hget := KX b _ z2
      exact ⟨hget, z3, its.toList, z4, _, hget, rfl, n, by simp⟩
  have hcT : ∀ p xs, (p, xs) ∈ cstTab → ∃ ob, Hc K0 p = some (.frz ob (.tup xs)) := fun p xs m => by
    obtain ⟨od, its, n, sl, e, _⟩ := C.tup p xs (C.one p xs m)
    refine ⟨⟨.type "tuple", od, .seq its n, sl⟩, ?_⟩
    unfold Hc
    rw [C.one p xs m]
    show (K0.lookup p).map _ = _
    rw [e]; rfl
  have hcD : ∀ b o es ep, Hc K0 b ≠ none → s₁.heap.get? b = some o → o.data ≠ .dict es ep := fun b o es ep z e d => by
    rcases hc1 b with q | ⟨ob', xs, od, its, n, sl, q, _, z2, rfl, _⟩
    · exact z q
    · have hget := KX b _ z2
      rw [hget] at e; cases e; cases d
  have hcK : ∀ b, Hc K0 b ≠ none → (offC K0).lookup b = none := fun b z => by
    rcases hc1 b with q | ⟨ob', xs, od, its, n, sl, q, q2, _⟩
    · exact absurd q z
    · rw [off_look, q2]; rfl
  have hcF : ∀ b, Hc K0 b = none ∨ ∃ o u, Hc K0 b = some (.frz o u) := fun b => by
    rcases hc1 b with q | ⟨ob', xs, od, its, n, sl, q, _⟩
    · exact .inl q
    · exact .inr ⟨_, _, q⟩
  cases hk : K0.lookup a with
  | some o =>
    have e := KX a o hk
    rw [ha] at e
    cases e
    have hno : cstTab.lookup a = none := by
      cases q : cstTab.lookup a with
      | none => rfl
      | some xs =>
        obtain ⟨od, its, n, sl, e, _⟩ := C.tup a xs q
        rw [hk] at e
        exact absurd (congrArg Obj.cls (Option.some.inj e)) (by intro z; exact absurd (Value.type.inj z) (by decide))
    refine core (Hc K0) hcF (.inr ⟨vs, _, by rw [off_look, hno]; exact hk, by rw [lenV]; exact hl, rv⟩) (fun b u z => ?_) (fun p xs m => .inr (hcT p xs m)) hcD hcK
    rcases hcF b with q | ⟨ob, u', q⟩
    · rw [q] at z; cases z
    · rw [q] at z; cases z
      exact hcO _ b ob u' q
  | none =>
    have hno : cstTab.lookup a = none := by
      cases q : cstTab.lookup a with
      | none => rfl
      | some xs =>
        obtain ⟨od, its, n, sl, e, _⟩ := C.tup a xs q
        rw [hk] at e; cases e
    have hna : Hc K0 a = none := by unfold Hc; rw [hno]
    refine core (fun b => if b = a then some (.frz { cls := .type "list", data := .seq vs.toArray } (.lst (ns.map V.int))) else Hc K0 b) (fun b => ?_) (.inl (.inr ⟨{ cls := .type "list", data := .seq vs.toArray }, if_pos rfl⟩)) (fun b u z => ?_) (fun p xs m => ?_) (fun b o es ep z e d => ?_) fun b z => ?_
    · by_cases hb : b = a
      · exact .inr ⟨_, _, if_pos hb⟩
      · rcases hcF b with q | ⟨ob, u, q⟩
        · exact .inl ((if_neg hb).trans q)
        · exact .inr ⟨ob, u, (if_neg hb).trans q⟩
    · by_cases hb : b = a
      · have z' := (if_pos hb).symm.trans z
        cases z'
        subst hb
        exact ⟨ha, by rw [List.length_map]; exact hl, vs, _, rv, ha⟩
      · have z' := (if_neg hb).symm.trans z
        rcases hcF b with q | ⟨ob, u', q⟩
        · rw [q] at z'; cases z'
        · rw [q] at z'; cases z'
          exact hcO _ b ob u' q
    · obtain ⟨ob, q⟩ := hcT p xs m
      refine .inr ⟨ob, ?_⟩
      have hb : p ≠ a := fun e => by rw [e, hna] at q; cases q
      exact (if_neg hb).trans q
    · by_cases hb : b = a
      · subst hb
        rw [ha] at e; cases e; cases d
      · exact hcD b o es ep (fun q => z ((if_neg hb).trans q)) e d
    · by_cases hb : b = a
      · subst hb
        rw [off_look, hno]; exact hk
      · exact hcK b fun q => z ((if_neg hb).trans q)
theorem walk_ofC {l : PySem.W.OpenLaw} {n k : Nat} {q : Program} {loose : List Str} {XP : (Str → Option Value) → Heap → Prop} {YP : World → Heap → Prop} {d : DefRec} {K : Params → PySem.W.Frag} {CX : World → CXT} {sp : World → Sp} {x : Str}
    (hn : l.most = some n) (hn2 : n ≤ sizeLine) (hdf : d.params.defaults = []) (hr : Room k callerA) (hY : ∀ (w : World) (h : Heap), YP w h → (K w.params).In h)
    (F : ∀ (w : World) (mg : Str → Option Value) (fa : Addr) (h : Heap), (K w.params).In h → h.Ns mainGlobals mg → mg d.name = some (.ref fa) → CstOk (K w.params) ∧
      ∃ fd : FuncData, (∀ (s : Shared) (u : Value), BindsTo s fd ⟨[u], []⟩ [(x, u)]) ∧ ∀ base : Heap, (offC (K w.params)).In base → base.Ns mainGlobals mg → FnOk l.prog w (offC (K w.params)) mg base (CX w) k fa fd [x] (sp w))
    (hsp : ∀ (w : World) (H : Hp) (a : Addr) (ns : List Int), ns.length ≤ n → LsD (offC (K w.params)) H a (ns.map V.int) → (∀ p xs, (p, xs) ∈ cstTab → TupT H p xs) → sp w [.ref a] H (fun v _ => v = .bl true) fun _ _ _ => False)
    (hCX : ∀ (w : World) (H : Hp) (s : Shared) (e : Value) (s' : Shared), CX w [] H s (fun _ _ _ => False) e s' → False) :
    PySem.W.WalkO q loose XP YP l.row.toRowW d [] (fun f vs => PySem.call f vs) := by
  refine Att.attach_call hn hdf fun w s₀ s₁ mg mb fa o pm cd doc a vs ns G Y ho hd hcd hmg hobj hints hlen hg => ?_
  have KX := hY w _ Y
  obtain ⟨C, fd, hb, hF⟩ := F w mg fa _ KX G.T.g hmg
  exact law_callC C KX G.T.g G.T.b G.T.builtins G.T.nolimit hg hobj hints (Nat.le_trans hlen hn2) hr hF hb (fun H hS hT => hsp w H a ns hlen hS hT) fun H e s' => hCX w H s₁ e s'
end L2
namespace Q1
structure IsQ (n d t b : Int) : Prop where
  pos : 1 ≤ d
  cop : Int.gcd n d = 1
  eq : n * b = t * d
theorem cop_def {a b : Int} : Int.gcd a b = 1 ↔ Nat.Coprime a.natAbs b.natAbs := Iff.rfl
theorem cop_comm {a b : Int} (h : Int.gcd a b = 1) : Int.gcd b a = 1 := by rw [Int.gcd_comm]; exact h
theorem cop_mul {a b c : Int} (h1 : Int.gcd a c = 1) (h2 : Int.gcd b c = 1) : Int.gcd (a * b) c = 1 := by
  rw [cop_def] at *
  rw [Int.natAbs_mul]
  exact Nat.Coprime.mul_left h1 h2
theorem cop_mul' {a b c : Int} (h1 : Int.gcd a b = 1) (h2 : Int.gcd a c = 1) : Int.gcd a (b * c) = 1 := cop_comm (cop_mul (cop_comm h1) (cop_comm h2))
theorem cop_dvd {a b c : Int} (h : Int.gcd b c = 1) (d : a ∣ b) : Int.gcd a c = 1 := by
  rw [cop_def] at *
  exact Nat.Coprime.coprime_dvd_left (Int.natAbs_dvd_natAbs.mpr d) h
theorem cop_dvd' {a b c : Int} (h : Int.gcd c b = 1) (d : a ∣ b) : Int.gcd c a = 1 := cop_comm (cop_dvd (cop_comm h) d)
theorem dvd_of_cop {a b c : Int} (h : Int.gcd a b = 1) (d : a ∣ b * c) : a ∣ c := by
  rw [cop_def] at h
  rw [← Int.natAbs_dvd_natAbs] at *
  rw [Int.natAbs_mul] at d
  exact Nat.Coprime.dvd_of_dvd_mul_left h d
theorem IsQ.dvd_top {n d t b : Int} (h : IsQ n d t b) : n ∣ t := dvd_of_cop h.cop ⟨b, by rw [h.eq]; exact Int.mul_comm _ _⟩
theorem IsQ.dvd_bot {n d t b : Int} (h : IsQ n d t b) : d ∣ b := dvd_of_cop (cop_comm h.cop) ⟨t, by rw [h.eq]; exact Int.mul_comm _ _⟩
theorem natAbs_le_of_dvd {a b : Int} (h : a ∣ b) (hb : b ≠ 0) : a.natAbs ≤ b.natAbs := Nat.le_of_dvd (by omega) (Int.natAbs_dvd_natAbs.mpr h)
theorem IsQ.top_le {n d t b : Int} (h : IsQ n d t b) (hb : b ≠ 0) : n.natAbs ≤ t.natAbs := by
  by_cases ht : t = 0
  · have e := h.eq
    rw [ht, Int.zero_mul] at e
    rcases Int.mul_eq_zero.mp e with z | z
    · rw [z, ht]; exact Nat.le_refl _
    · exact absurd z hb
  · exact natAbs_le_of_dvd h.dvd_top ht
theorem IsQ.bot_le {n d t b : Int} (h : IsQ n d t b) (hb : b ≠ 0) : d.natAbs ≤ b.natAbs := natAbs_le_of_dvd h.dvd_bot hb
theorem IsQ.uniq {n d n' d' t b : Int} (h : IsQ n d t b) (h' : IsQ n' d' t b) (hb : b ≠ 0) : n = n' ∧ d = d' := by
  have e : n * d' = n' * d := by
    have e1 := h.eq
    have e2 := h'.eq
    have : b * (n * d') = b * (n' * d) := by grind
    exact Int.eq_of_mul_eq_mul_left hb this
  have hd : d = d' := by
    have a1 : d ∣ d' := dvd_of_cop (cop_comm h.cop) ⟨n', by rw [e]; exact Int.mul_comm _ _⟩
    have a2 : d' ∣ d := dvd_of_cop (cop_comm h'.cop) ⟨n, by rw [← e]; exact Int.mul_comm _ _⟩
    have p := h.pos
    have p' := h'.pos
    have b1 := natAbs_le_of_dvd a1 (by omega)
    have b2 := natAbs_le_of_dvd a2 (by omega)
    omega
  subst hd
  have p := h.pos
  exact ⟨Int.eq_of_mul_eq_mul_right (by omega) e, rfl⟩
theorem gcd_facts {t b : Int} (hb : b ≠ 0) : ∃ t' b' : Int, 0 < (Int.gcd t b : Int) ∧ t = t' * (Int.gcd t b : Int) ∧ b = b' * (Int.gcd t b : Int) ∧ Int.gcd t' b' = 1 := by
  have hp : 0 < Int.gcd t b := Int.gcd_pos_of_ne_zero_right _ hb
  refine ⟨t / (Int.gcd t b : Int), b / (Int.gcd t b : Int), by omega, (Int.ediv_mul_cancel (Int.gcd_dvd_left _ _)).symm, (Int.ediv_mul_cancel (Int.gcd_dvd_right _ _)).symm, Int.gcd_ediv_gcd_ediv_gcd hp⟩
def dv (t b : Int) : Int := if b < 0 then -(Int.gcd t b : Int) else (Int.gcd t b : Int)
theorem dv_ne {t b : Int} (hb : b ≠ 0) : dv t b ≠ 0 := by
  have hp : 0 < Int.gcd t b := Int.gcd_pos_of_ne_zero_right _ hb
  unfold dv; split <;> omega
theorem frac_ok {t b : Int} (hb : b ≠ 0) : IsQ (t.fdiv (dv t b)) (b.fdiv (dv t b)) t b := by
  obtain ⟨t', b', hp, et, eb, c⟩ := gcd_facts (t := t) hb
  unfold dv
  generalize (Int.gcd t b : Int) = g at *
  subst et eb
  by_cases hs : b' * g < 0
  · rw [if_pos hs]
    have e1 : (t' * g).fdiv (-g) = -t' := by
      have : t' * g = (-t') * (-g) := by grind
      rw [this]; exact Int.mul_fdiv_cancel _ (by omega)
    have e2 : (b' * g).fdiv (-g) = -b' := by
      have : b' * g = (-b') * (-g) := by grind
      rw [this]; exact Int.mul_fdiv_cancel _ (by omega)
    rw [e1, e2]
    have hb' : b' < 0 := by
      rcases Int.lt_trichotomy b' 0 with z | z | z
      · exact z
      · subst z; simp at hb
      · have := Int.mul_pos z hp; omega
    refine ⟨by omega, ?_, by grind⟩
    rw [Int.neg_gcd, Int.gcd_neg]; exact c
  · rw [if_neg hs]
    rw [Int.mul_fdiv_cancel _ (by omega), Int.mul_fdiv_cancel _ (by omega)]
    have hb' : 0 < b' := by
      rcases Int.lt_trichotomy b' 0 with z | z | z
      · exact absurd (Int.mul_neg_of_neg_of_pos z hp) hs
      · subst z; simp at hb
      · exact z
    exact ⟨by omega, c, by grind⟩
theorem times_ok {n1 d1 n2 d2 l0 l1 r0 r1 : Int} (h1 : Int.gcd n1 d1 = 1) (h2 : Int.gcd n2 d2 = 1) (hl : IsQ l0 l1 n1 d2) (hr : IsQ r0 r1 n2 d1) : IsQ (l0 * r0) (l1 * r1) (n1 * n2) (d1 * d2) := by
  have p1 := hl.pos
  have p2 := hr.pos
  have e1 := hl.eq
  have e2 := hr.eq
  refine ⟨?_, cop_mul (cop_mul' hl.cop ?_) (cop_mul' ?_ hr.cop), ?_⟩
  · have := Int.mul_pos (show 0 < l1 by omega) (show 0 < r1 by omega); omega
  · exact cop_dvd (cop_dvd' h1 hr.dvd_bot) hl.dvd_top
  · exact cop_dvd (cop_dvd' h2 hl.dvd_bot) hr.dvd_top
  · grind
theorem gcd_add_mul {a b c p : Int} (h : Int.gcd (a * b) p = 1) : Int.gcd (a * b + c * p) p = 1 := by
  rw [Int.gcd_add_mul_right_left]
  exact h
theorem plus_ok {n1 d1 n2 d2 g p1 p2 r0 r1 : Int} (h1 : Int.gcd n1 d1 = 1) (h2 : Int.gcd n2 d2 = 1) (hd1 : 1 ≤ d1) (hd2 : 1 ≤ d2) (hg : 0 < g) (e1 : d1 = p1 * g) (e2 : d2 = p2 * g) (hc : Int.gcd p1 p2 = 1) (hr : IsQ r0 r1 (n1 * p2 + n2 * p1) g) :
    IsQ r0 (p1 * p2 * r1) (n1 * d2 + n2 * d1) (d1 * d2) := by
  have p := hr.pos
  have q1 : 0 < p1 := by
    rcases Int.lt_trichotomy p1 0 with z | z | z
    · have := Int.mul_neg_of_neg_of_pos z hg; omega
    · subst z; simp at e1; omega
    · exact z
  have q2 : 0 < p2 := by
    rcases Int.lt_trichotomy p2 0 with z | z | z
    · have := Int.mul_neg_of_neg_of_pos z hg; omega
    · subst z; simp at e2; omega
    · exact z
  have c1 : Int.gcd n1 p1 = 1 := cop_dvd' h1 ⟨g, e1⟩
  have c2 : Int.gcd n2 p2 = 1 := cop_dvd' h2 ⟨g, e2⟩
  have t1 : Int.gcd (n1 * p2 + n2 * p1) p1 = 1 := gcd_add_mul (cop_mul c1 (cop_comm hc))
  have t2 : Int.gcd (n1 * p2 + n2 * p1) p2 = 1 := by rw [Int.add_comm]; exact gcd_add_mul (cop_mul c2 hc)
  refine ⟨?_, ?_, ?_⟩
  · have a := Int.mul_pos q1 q2
    have b := Int.mul_pos a (show 0 < r1 by omega)
    omega
  · exact cop_mul' (cop_dvd (cop_mul' t1 t2) hr.dvd_top) hr.cop
  · have e := hr.eq
    subst e1 e2
    grind
theorem gcd_step {a b : Int} : Int.gcd b (a % b) = Int.gcd a b := by
  have e : a = a % b + (a / b) * b := by have := Int.emod_add_ediv_mul a b; omega
  have h : Int.gcd (a % b + (a / b) * b) b = Int.gcd (a % b) b := Int.gcd_add_mul_right_left ..
  rw [← e] at h
  rw [h, Int.gcd_comm]
end Q1
namespace Q1
def qmk (t b : Int) : Int × Int := (t.fdiv (dv t b), b.fdiv (dv t b))
theorem qmk_ok {t b : Int} (hb : b ≠ 0) : IsQ (qmk t b).1 (qmk t b).2 t b := frac_ok hb
theorem IsQ.qm {n d t b : Int} (h : IsQ n d t b) (hb : b ≠ 0) : (n, d) = qmk t b := by
  obtain ⟨a, c⟩ := h.uniq (qmk_ok hb) hb
  exact Prod.ext a c
def qadd (a b : Int × Int) : Int × Int := qmk (a.1 * b.2 + b.1 * a.2) (a.2 * b.2)
def qmul (a b : Int × Int) : Int × Int := qmk (a.1 * b.1) (a.2 * b.2)
def Low (q : Int × Int) : Prop := 1 ≤ q.2 ∧ Int.gcd q.1 q.2 = 1
theorem low_mk {t b : Int} (hb : b ≠ 0) : Low (qmk t b) := ⟨(qmk_ok hb).pos, (qmk_ok hb).cop⟩
theorem low_self {q : Int × Int} (h : Low q) : qmk q.1 q.2 = q := ((⟨h.1, h.2, rfl⟩ : IsQ q.1 q.2 q.1 q.2).qm (by have := h.1; omega)).symm
end Q1
namespace Q1
structure Lp (A B a b u1 u2 l1 l2 : Int) : Prop where
  ex : ∃ e U1 U2 L1 L2 : Int, (e = 1 ∨ e = -1) ∧ 0 ≤ U1 ∧ 0 ≤ U2 ∧ 0 ≤ L1 ∧ 0 ≤ L2 ∧ u1 = e * U1 ∧ u2 = -(e * U2) ∧ l1 = -(e * L1) ∧ l2 = e * L2 ∧ U1 * L2 - U2 * L1 = e ∧ a = e * (U1 * A - U2 * B) ∧ b = e * (L2 * B - L1 * A) ∧ U1 ≤ 2 ^ 120 ∧ U2 ≤ 2 ^ 120
  b0 : 0 ≤ b
  a0 : 2 ^ 120 ≤ a
theorem Lp.start {A B : Int} (hA : 2 ^ 120 ≤ A) (hB : 0 ≤ B) : Lp A B A B 1 0 0 1 := by
  refine ⟨⟨1, 1, 0, 0, 1, .inl rfl, by decide, by decide, by decide, by decide, by decide, by decide, by decide, by decide, by decide, by omega, by omega, by decide, by decide⟩, hB, hA⟩
theorem e_sq {e x : Int} (h : e = 1 ∨ e = -1) : e * (e * x) = x := by rcases h with rfl | rfl <;> omega
theorem Lp.sizes {A B a b u1 u2 l1 l2 : Int} (h : Lp A B a b u1 u2 l1 l2) (hA : A < 2 ^ 240) (hB : B < 2 ^ 240) : l1.natAbs < 2 ^ 120 ∧ l2.natAbs < 2 ^ 120 ∧ u1.natAbs ≤ 2 ^ 120 ∧ u2.natAbs ≤ 2 ^ 120 := by
  obtain ⟨e, U1, U2, L1, L2, he, h1, h2, h3, h4, rfl, rfl, rfl, rfl, hd, ha, hb, h5, h6⟩ := h.ex
  have k1 : L1 * a + U1 * b = B := by rw [ha, hb]; rcases he with rfl | rfl <;> grind
  have k2 : L2 * a + U2 * b = A := by rw [ha, hb]; rcases he with rfl | rfl <;> grind
  have q1 : 0 ≤ U1 * b := Int.mul_nonneg h1 h.b0
  have q2 : 0 ≤ U2 * b := Int.mul_nonneg h2 h.b0
  have r1 : L1 * 2 ^ 120 ≤ L1 * a := Int.mul_le_mul_of_nonneg_left h.a0 h3
  have r2 : L2 * 2 ^ 120 ≤ L2 * a := Int.mul_le_mul_of_nonneg_left h.a0 h4
  rcases he with rfl | rfl <;> refine ⟨?_, ?_, ?_, ?_⟩ <;> omega
theorem Lp.step {A B a b u1 u2 l1 l2 : Int} (h : Lp A B a b u1 u2 l1 l2) (hA : A < 2 ^ 240) (hB : B < 2 ^ 240) (hb : 2 ^ 120 ≤ b) : Lp A B b (a - a / b * b) l1 l2 (u1 - a / b * l1) (u2 - a / b * l2) := by
  have hs := h.sizes hA hB
  obtain ⟨e, U1, U2, L1, L2, he, h1, h2, h3, h4, rfl, rfl, rfl, rfl, hd, ha, hb', h5, h6⟩ := h.ex
  have hq : 0 ≤ a / b := Int.ediv_nonneg (by have := h.a0; omega) (by omega)
  have hm : a - a / b * b = a % b := by have := Int.emod_add_ediv_mul a b; omega
  generalize hQ : a / b = q at *
  refine ⟨⟨-e, L1, L2, U1 + q * L1, U2 + q * L2, by rcases he with rfl | rfl <;> simp, h3, h4, Int.add_nonneg h1 (Int.mul_nonneg hq h3), Int.add_nonneg h2 (Int.mul_nonneg hq h4), by grind, by grind, by grind, by grind, ?_, ?_, ?_, ?_, ?_⟩, ?_, hb⟩
  · grind
  · rw [hb']; grind
  · rw [ha, hb']; grind
  · rcases he with rfl | rfl <;> omega
  · rcases he with rfl | rfl <;> omega
  · rw [hm]; exact Int.emod_nonneg _ (by omega)
theorem gcd_cross {x y p q r s e : Int} (he : e = 1 ∨ e = -1) (h : p * s - q * r = e) : Int.gcd (p * x + q * y) (r * x + s * y) = Int.gcd x y := by
  apply Nat.dvd_antisymm
  · have d1 : ((Int.gcd (p * x + q * y) (r * x + s * y) : Nat) : Int) ∣ p * x + q * y := Int.gcd_dvd_left _ _
    have d2 : ((Int.gcd (p * x + q * y) (r * x + s * y) : Nat) : Int) ∣ r * x + s * y := Int.gcd_dvd_right _ _
    generalize hg : ((Int.gcd (p * x + q * y) (r * x + s * y) : Nat) : Int) = g at d1 d2
    have hx : g ∣ x := by
      have t : g ∣ e * (s * (p * x + q * y) - q * (r * x + s * y)) := Int.dvd_trans (Int.dvd_sub (Int.dvd_trans d1 ⟨s, Int.mul_comm _ _⟩) (Int.dvd_trans d2 ⟨q, Int.mul_comm _ _⟩)) ⟨e, Int.mul_comm _ _⟩
      have : e * (s * (p * x + q * y) - q * (r * x + s * y)) = e * (e * x) := by rw [← h]; grind
      rw [this, e_sq he] at t; exact t
    have hy : g ∣ y := by
      have t : g ∣ e * (p * (r * x + s * y) - r * (p * x + q * y)) := Int.dvd_trans (Int.dvd_sub (Int.dvd_trans d2 ⟨p, Int.mul_comm _ _⟩) (Int.dvd_trans d1 ⟨r, Int.mul_comm _ _⟩)) ⟨e, Int.mul_comm _ _⟩
      have : e * (p * (r * x + s * y) - r * (p * x + q * y)) = e * (e * y) := by rw [← h]; grind
      rw [this, e_sq he] at t; exact t
    have := Int.dvd_coe_gcd hx hy
    rw [← hg] at this
    exact Int.natCast_dvd_natCast.mp this
  · have d1 : ((Int.gcd x y : Nat) : Int) ∣ x := Int.gcd_dvd_left _ _
    have d2 : ((Int.gcd x y : Nat) : Int) ∣ y := Int.gcd_dvd_right _ _
    generalize hg : ((Int.gcd x y : Nat) : Int) = g at d1 d2
    have a1 : g ∣ p * x + q * y := Int.dvd_add (Int.dvd_trans d1 ⟨p, Int.mul_comm _ _⟩) (Int.dvd_trans d2 ⟨q, Int.mul_comm _ _⟩)
    have a2 : g ∣ r * x + s * y := Int.dvd_add (Int.dvd_trans d1 ⟨r, Int.mul_comm _ _⟩) (Int.dvd_trans d2 ⟨s, Int.mul_comm _ _⟩)
    have := Int.dvd_coe_gcd a1 a2
    rw [← hg] at this
    exact Int.natCast_dvd_natCast.mp this
theorem Lp.done {X Y : Nat} {c : Nat} {A B a b u1 u2 l1 l2 : Int} (h : Lp A B a b u1 u2 l1 l2) (hA : A = (X : Int) / 2 ^ c) (hB : B = (Y : Int) / 2 ^ c) (hA2 : A < 2 ^ 240) (hB2 : B < 2 ^ 240) (hA3 : 2 ^ 239 ≤ A) (hb : b < 2 ^ 120) :
    Int.gcd (u1 * X + u2 * Y) (l1 * X + l2 * Y) = Nat.gcd X Y ∧ (l1 * X + l2 * Y).natAbs < X := by
  have hs := h.sizes hA2 hB2
  obtain ⟨e, U1, U2, L1, L2, he, h1, h2, h3, h4, rfl, rfl, rfl, rfl, hd, ha, hb', h5, h6⟩ := h.ex
  refine ⟨(gcd_cross he (by rcases he with rfl | rfl <;> grind)).trans rfl, ?_⟩
  have hC : (0 : Int) < 2 ^ c := Int.pow_pos (by decide)
  have x1 := Int.emod_add_ediv_mul (X : Int) (2 ^ c)
  have y1 := Int.emod_add_ediv_mul (Y : Int) (2 ^ c)
  have x2 := Int.emod_nonneg (X : Int) (show (2 : Int) ^ c ≠ 0 by omega)
  have y2 := Int.emod_nonneg (Y : Int) (show (2 : Int) ^ c ≠ 0 by omega)
  have x3 := Int.emod_lt_of_pos (X : Int) hC
  have y3 := Int.emod_lt_of_pos (Y : Int) hC
  rw [← hA] at x1
  rw [← hB] at y1
  generalize (X : Int) % 2 ^ c = r1 at *
  generalize (Y : Int) % 2 ^ c = r2 at *
  generalize (2 : Int) ^ c = C at *
  have hL1 : L1 < 2 ^ 120 := by rcases he with rfl | rfl <;> omega
  have hL2 : L2 < 2 ^ 120 := by rcases he with rfl | rfl <;> omega
  have m1 : L1 * r1 ≤ 2 ^ 120 * C := Int.mul_le_mul (by omega) (by omega) x2 (by decide)
  have m2 : L2 * r2 ≤ 2 ^ 120 * C := Int.mul_le_mul (by omega) (by omega) y2 (by decide)
  have n1 : 0 ≤ L1 * r1 := Int.mul_nonneg h3 x2
  have n2 : 0 ≤ L2 * r2 := Int.mul_nonneg h4 y2
  have m3 : b * C ≤ 2 ^ 120 * C := Int.mul_le_mul_of_nonneg_right (by omega) (by omega)
  have n3 : 0 ≤ b * C := Int.mul_nonneg h.b0 (by omega)
  have m4 : 2 ^ 239 * C ≤ A * C := Int.mul_le_mul_of_nonneg_right hA3 (by omega)
  have key : -(e * L1) * (X : Int) + e * L2 * (Y : Int) = b * C + e * (L2 * r2 - L1 * r1) := by
    rw [← x1, ← y1, hb']; grind
  rw [key]
  rcases he with rfl | rfl <;> omega
end Q1
namespace Q1
def oft (b g : Nat) (s : Int × Int) : Int × Int := (s.1 ^ b * (s.2 - s.1) ^ g, s.2 ^ b * s.2 ^ g)
structure Shr (s : Int × Int) : Prop where
  low : Low s
  pos : 0 < s.1
  les : s.1 < s.2
theorem Shr.rest {s : Int × Int} (h : Shr s) : Int.gcd (s.2 - s.1) s.2 = 1 := by
  have := h.low.2
  rw [show s.2 - s.1 = -s.1 + 1 * s.2 by omega, Int.gcd_add_mul_right_left, Int.neg_gcd]
  exact this
theorem cop_pows {x y : Int} (h : Int.gcd x y = 1) (m n : Nat) : Int.gcd (x ^ m) (y ^ n) = 1 := by
  rw [cop_def] at *
  rw [Int.natAbs_pow, Int.natAbs_pow]
  exact Nat.Coprime.pow m n h
theorem low_oft {s : Int × Int} (h : Shr s) (b g : Nat) : Low (oft b g s) := by
  have h1 : 0 < s.2 := by have := h.low.1; omega
  refine ⟨?_, cop_mul (cop_mul' (cop_pows h.low.2 b b) (cop_pows h.low.2 b g)) (cop_mul' (cop_pows h.rest g b) (cop_pows h.rest g g))⟩
  have a := (Int.pow_pos h1 : 0 < s.2 ^ b)
  have c := (Int.pow_pos h1 : 0 < s.2 ^ g)
  have := Int.mul_pos a c
  show 1 ≤ s.2 ^ b * s.2 ^ g
  omega
theorem oft_pos {s : Int × Int} (h : Shr s) (b g : Nat) : 0 < (oft b g s).1 := Int.mul_pos (Int.pow_pos h.pos) (Int.pow_pos (by have := h.les; omega))
theorem shr_mk {t c : Int} (h1 : 0 < t) (h2 : t < c) : Shr (qmk t c) := by
  have ok := qmk_ok (t := t) (show c ≠ 0 by omega)
  have p := ok.pos
  have e := ok.eq
  refine ⟨low_mk (by omega), ?_, ?_⟩
  · have : 0 < t * (qmk t c).2 := Int.mul_pos h1 (by omega)
    rw [← e] at this
    exact Int.pos_of_mul_pos_left this (by omega)
  · have : t * (qmk t c).2 < c * (qmk t c).2 := Int.mul_lt_mul_of_pos_right h2 (by omega)
    rw [← e, Int.mul_comm c] at this
    exact Int.lt_of_mul_lt_mul_right this (by omega)
theorem one_less {s : Int × Int} (h : Shr s) : qadd (1, 1) (-s.1, s.2) = (s.2 - s.1, s.2) := by
  unfold qadd
  have h1 : 0 < s.2 := by have := h.low.1; omega
  refine ((⟨by show 1 ≤ s.2; omega, h.rest, ?_⟩ : IsQ (s.2 - s.1) s.2 (1 * s.2 + -s.1 * 1) (1 * s.2)).qm (by omega)).symm
  grind
theorem oft_mk {t c : Int} (h1 : 0 < t) (h2 : t < c) (b g : Nat) : (oft b g (qmk t c)).1 * (c ^ b * c ^ g) = (t ^ b * (c - t) ^ g) * (oft b g (qmk t c)).2 := by
  have e := (qmk_ok (t := t) (show c ≠ 0 by omega)).eq
  unfold oft
  generalize qmk t c = s at *
  have e1 : s.1 ^ b * c ^ b = t ^ b * s.2 ^ b := by rw [← Int.mul_pow, e, Int.mul_pow]
  have e2 : (s.2 - s.1) ^ g * c ^ g = (c - t) ^ g * s.2 ^ g := by
    rw [← Int.mul_pow, ← Int.mul_pow]
    congr 1
    grind
  show s.1 ^ b * (s.2 - s.1) ^ g * (c ^ b * c ^ g) = t ^ b * (c - t) ^ g * (s.2 ^ b * s.2 ^ g)
  generalize s.1 ^ b = x1 at *
  generalize (s.2 - s.1) ^ g = x2 at *
  generalize c ^ b = x3 at *
  generalize c ^ g = x4 at *
  generalize t ^ b = x5 at *
  generalize (c - t) ^ g = x6 at *
  generalize s.2 ^ b = x7 at *
  generalize s.2 ^ g = x8 at *
  have : x1 * x2 * (x3 * x4) = (x1 * x3) * (x2 * x4) := by grind
  rw [this, e1, e2]
  grind
def rat (b g : Nat) (lo hi : Int × Int) : Int × Int := qmul (oft b g hi) ((oft b g lo).2, (oft b g lo).1)
theorem rat_ok {l h c : Int} (h1 : 0 < l) (h2 : l < c) (h3 : 0 < h) (h4 : h < c) (b g : Nat) : IsQ (rat b g (qmk l c) (qmk h c)).1 (rat b g (qmk l c) (qmk h c)).2 (h ^ b * (c - h) ^ g) (l ^ b * (c - l) ^ g) := by
  have s1 := shr_mk h1 h2
  have s2 := shr_mk h3 h4
  have p1 := oft_pos s1 b g
  have p2 := (low_oft s2 b g).1
  have p3 := (low_oft s1 b g).1
  have e1 := oft_mk h1 h2 b g
  have e2 := oft_mk h3 h4 b g
  have ok := qmk_ok (t := (oft b g (qmk h c)).1 * (oft b g (qmk l c)).2) (b := (oft b g (qmk h c)).2 * (oft b g (qmk l c)).1) (Int.mul_ne_zero (by omega) (by omega))
  unfold rat qmul
  refine ⟨ok.pos, ok.cop, ?_⟩
  have e := ok.eq
  have hc : 0 < c ^ b * c ^ g := Int.mul_pos (Int.pow_pos (by omega)) (Int.pow_pos (by omega))
  generalize qmk ((oft b g (qmk h c)).1 * (oft b g (qmk l c)).2) ((oft b g (qmk h c)).2 * (oft b g (qmk l c)).1) = f at *
  generalize (oft b g (qmk h c)).1 = N' at *
  generalize (oft b g (qmk h c)).2 = D' at *
  generalize (oft b g (qmk l c)).1 = N at *
  generalize (oft b g (qmk l c)).2 = D at *
  generalize c ^ b * c ^ g = C at *
  generalize h ^ b * (c - h) ^ g = T at *
  generalize l ^ b * (c - l) ^ g = B at *
  have hne : C * (D' * D) ≠ 0 := Int.mul_ne_zero (by omega) (Int.mul_ne_zero (by omega) (by omega))
  refine Int.eq_of_mul_eq_mul_left hne ?_
  have k1 : C * (D' * D) * (f.1 * B) = C * (f.1 * (D' * N) * C) := by
    have : C * (D' * D) * (f.1 * B) = C * (D' * f.1 * (B * D)) := by grind
    rw [this, ← e1]; grind
  rw [k1, e]
  have : C * (N' * D * f.2 * C) = C * ((N' * C) * (D * f.2)) := by grind
  rw [this, e2]; grind
theorem rat_less {n d n' d' T B l h : Int} (q : IsQ n d T B) (q' : IsQ n' d' (T * h) (B * l)) (hT : 0 < T) (hB : 0 < B) (hl : 0 < l) (hlh : l < h) : n * d' < n' * d := by
  have p := q.pos
  have p' := q'.pos
  have e := q.eq
  have e' := q'.eq
  have k : (n * d') * (B * l) < (n' * d) * (B * l) := by
    have k1 : (n * d') * (B * l) = (T * d * d') * l := by rw [← e]; grind
    have k2 : (n' * d) * (B * l) = (T * d * d') * h := by
      have : (n' * d) * (B * l) = (n' * (B * l)) * d := by grind
      rw [this, e']; grind
    rw [k1, k2]
    exact Int.mul_lt_mul_of_pos_left hlh (Int.mul_pos (Int.mul_pos hT (by omega)) (by omega))
  exact Int.lt_of_mul_lt_mul_right k (Int.le_of_lt (Int.mul_pos hB hl))
end Q1
namespace MyLaw
open PySem L2 Q1
abbrev bt (x : Int) : Nat := Builtin.Int.intBits x
theorem bt_of {m : Nat} {x : Int} (h : x.natAbs < 2 ^ m) : bt x ≤ m := intBits_le_iff.mpr h
theorem bt_lt {m : Nat} {x : Int} (h : bt x ≤ m) : x.natAbs < 2 ^ m := intBits_le_iff.mp h
theorem bt_mul {m n : Nat} {x y : Int} (h1 : bt x ≤ m) (h2 : bt y ≤ n) : bt (x * y) ≤ m + n := intBits_mul_le h1 h2
theorem bt_add {m : Nat} {x y : Int} (h1 : bt x ≤ m) (h2 : bt y ≤ m) : bt (x + y) ≤ m + 1 := by
  have := intBits_add_le h1 h2
  rw [Nat.max_self] at this
  exact this
theorem bt_neg {m : Nat} {x : Int} (h : bt x ≤ m) : bt (-x) ≤ m := intBits_neg_le h
theorem bt_le {m : Nat} {x y : Int} (h : x.natAbs ≤ y.natAbs) (hy : bt y ≤ m) : bt x ≤ m := intBits_le_of_natAbs h hy
theorem bt_up {m n : Nat} {x : Int} (h : bt x ≤ m) (h2 : m ≤ n) : bt x ≤ n := Nat.le_trans h h2
theorem bt_pow {m : Nat} {x : Int} (h : bt x ≤ m) (k : Nat) : bt (x ^ k) ≤ m * k + 1 := by
  have := intBits_pow_le h k
  omega
theorem mulOk {m n : Nat} {x y : Int} (h1 : bt x ≤ m) (h2 : bt y ≤ n) (h : m + n ≤ 134217728 := by omega) : IntMulOk x y := IntMulOk.of_le h1 h2 h
theorem abs_nat (i : Int) : (if i < 0 then -i else i) = (i.natAbs : Nat) := by split <;> omega
theorem d_mul {a b : Int} (h : IntMulOk a b) : dMulI (.int a) (.int b) = some (.int (a * b)) := dIc_ok h
theorem d_mod {a b : Int} (h : 0 < b) : dMod (.int a) (.int b) = some (.int (a % b)) := by
  rw [← Int.fmod_eq_emod_of_nonneg _ (Int.le_of_lt h)]
  exact dIc_ok (C := fun _ j => j ≠ 0) (by omega)
theorem d_div {a b : Int} (h : 0 < b) (hb : bt b ≤ 9000) : dDiv (.int a) (.int b) = some (.int (a / b)) := by
  rw [← Int.fdiv_eq_ediv_of_nonneg _ (Int.le_of_lt h)]
  exact dIc_ok (C := CDivS) ⟨by omega, nopy_bits hb⟩
theorem d_divS {a b : Int} (h : b ≠ 0) (hb : bt b ≤ 9000) : dDiv (.int a) (.int b) = some (.int (a.fdiv b)) := dIc_ok (C := CDivS) ⟨h, nopy_bits hb⟩
theorem d_pow {a : Int} {k : Nat} (h : a.natAbs < 2 ^ 64) (hk : k ≤ 1000000) : dPow (.int a) (.int k) = some (.int (a ^ k)) := by
  have := dIc_ok (C := CPow) (g := fun i j => .int (i ^ j.toNat)) (a := a) (b := k) ⟨by omega, by omega, h⟩
  simpa using this
theorem atI0 {α : Type} {x : α} {xs : List α} : atI (x :: xs) 0 = some x := atI_nat (j := 0) rfl
theorem atI1 {α : Type} {x y : α} {xs : List α} : atI (x :: y :: xs) 1 = some y := atI_nat (j := 1) rfl
def Gets {β : Type} (x : Option β) (P : β → Prop) : Prop := ∃ d, x = some d ∧ P d
theorem of_gets {β : Type} {x : Option β} {d : β} (h : Gets x fun y => y = d) : x = some d := by
  obtain ⟨y, e, rfl⟩ := h; exact e
theorem Gets.mk {β : Type} {x : Option β} {P : β → Prop} {d : β} (e : x = some d) (h : P d) : Gets x P := ⟨d, e, h⟩
theorem Gets.imp {β : Type} {x : Option β} {P Q : β → Prop} (h : Gets x P) (f : ∀ d, P d → Q d) : Gets x Q := let ⟨d, e, p⟩ := h; ⟨d, e, f d p⟩
theorem gSeq_of {a b : DS → Option Res} {δ δ' : DS} (h : a δ = some (.nx δ')) : gSeq a b δ = b δ' := by
  unfold gSeq; rw [h]; rfl
theorem gWhile_inv {c : DS → Option Bool} {b : DS → Option Res} (W : Nat → DS → Prop) (Z : DS → Prop) (m : Nat) {δ : DS} (h : W m δ)
    (hs : ∀ m δ, W m δ → (c δ = some false ∧ Z δ) ∨ (c δ = some true ∧ ∃ δ' m', b δ = some (.nx δ') ∧ m' < m ∧ W m' δ')) : ∃ δ', gWhile c b δ = some (.nx δ') ∧ Z δ' := by
  obtain ⟨q, h1, δ', rfl, h2⟩ := gWhile_by W (fun _ q => ∃ δ', q = .nx δ' ∧ Z δ') m δ h (fun m δ hW => by
    rcases hs m δ hW with ⟨a, z⟩ | ⟨a, δ', m', e, l, w⟩
    · exact .inl ⟨a, δ, rfl, z⟩
    · exact .inr ⟨a, .inl ⟨δ', m', .inl e, l, w, fun q hq => hq⟩⟩)
  exact ⟨δ', h1, h2⟩
theorem forD_inv {t : D → DS → Option DS} {b : DS → Option Res} (W : Nat → DS → Prop) : ∀ (ds : List D) (k : Nat) {δ : DS}, W k δ → (∀ i d δ, ds[i]? = some d → W (k + i) δ → ∃ δ1 δ', t d δ = some δ1 ∧ b δ1 = some (.nx δ') ∧ W (k + i + 1) δ') →
    ∃ δ', forD t b ds δ = some (.nx δ') ∧ W (k + ds.length) δ'
  | [], k, δ, h, _ => ⟨δ, rfl, h⟩
  | d :: ds, k, δ, h, hs => by
    obtain ⟨δ1, δ', e1, e2, h'⟩ := hs 0 d δ rfl h
    obtain ⟨δ2, e3, h2⟩ := forD_inv W ds (k + 1) h' (fun i d δ e w => by
      have := hs (i + 1) d δ (by simpa using e) (by rw [show k + (i + 1) = k + 1 + i by omega]; exact w)
      rw [show k + (i + 1) + 1 = k + 1 + i + 1 by omega] at this
      exact this)
    refine ⟨δ2, ?_, by rw [List.length_cons, show k + (ds.length + 1) = k + 1 + ds.length by omega]; exact h2⟩
    rw [forD, e1, Option.bind_some, e2, Option.bind_some]
    exact e3
theorem for_inv {α : Type} {t : D → DS → Option DS} {b : DS → Option Res} (enc : α → D) (W : Nat → DS → Prop) (xs : List α) {δ : DS} (h : W 0 δ)
    (hs : ∀ i x δ, xs[i]? = some x → W i δ → ∃ δ1 δ', t (enc x) δ = some δ1 ∧ b δ1 = some (.nx δ') ∧ W (i + 1) δ') : ∃ δ', forD t b (xs.map enc) δ = some (.nx δ') ∧ W xs.length δ' := by
  obtain ⟨δ', e, w⟩ := forD_inv (t := t) (b := b) W (xs.map enc) 0 h (fun i d δ e w => by
    rw [List.getElem?_map] at e
    cases ex : xs[i]? with
    | none => rw [ex] at e; cases e
    | some x =>
      rw [ex] at e; cases e
      rw [Nat.zero_add] at w ⊢
      exact hs i x δ ex w)
  rw [Nat.zero_add, List.length_map] at w
  exact ⟨δ', e, w⟩
theorem forR_inv {t : D → DS → Option DS} {b : DS → Option Res} {lo : Int} {n : Nat} (W : Nat → DS → Prop) {δ : DS} (h : W 0 δ)
    (hs : ∀ i δ, i < n → W i δ → ∃ δ1 δ', t (.int (lo + i)) δ = some δ1 ∧ b δ1 = some (.nx δ') ∧ W (i + 1) δ') : ∃ δ', forD t b (rangeD lo n) δ = some (.nx δ') ∧ W n δ' := by
  obtain ⟨δ', e, w⟩ := for_inv (t := t) (b := b) (fun k : Nat => PyData.int (lo + k)) W (List.range n) h (fun i x δ e w => by
    have hi := (List.getElem?_eq_some_iff.mp e).1
    rw [List.length_range] at hi
    rw [List.getElem?_range hi] at e
    cases e
    exact hs i δ hi w)
  rw [List.length_range] at w
  exact ⟨δ', e, w⟩
theorem seq_while {c : DS → Option Bool} {b rest : DS → Option Res} {β : Type} {f : Res → Option β} {R : β → Prop} {δ : DS} (W : Nat → DS → Prop) (Z : DS → Prop) (m : Nat) (h : W m δ)
    (hs : ∀ m δ, W m δ → (c δ = some false ∧ Z δ) ∨ (c δ = some true ∧ ∃ δ' m', b δ = some (.nx δ') ∧ m' < m ∧ W m' δ')) (k : ∀ δ', Z δ' → Gets ((rest δ').bind f) R) : Gets ((gSeq (gWhile c b) rest δ).bind f) R := by
  obtain ⟨δ', h1, h2⟩ := gWhile_inv W Z m h hs
  rw [gSeq_of h1]
  exact k δ' h2
theorem seq_forR {t : D → DS → Option DS} {gi : DS → Option (List D)} {b rest : DS → Option Res} {β : Type} {f : Res → Option β} {R : β → Prop} {δ : DS} (lo : Int) (n : Nat) (W : Nat → DS → Prop) (hi : gi δ = some (rangeD lo n)) (h : W 0 δ)
    (hs : ∀ i δ, i < n → W i δ → ∃ δ1 δ', t (.int (lo + i)) δ = some δ1 ∧ b δ1 = some (.nx δ') ∧ W (i + 1) δ') (k : ∀ δ', W n δ' → Gets ((rest δ').bind f) R) : Gets ((gSeq (gFor gi t b) rest δ).bind f) R := by
  obtain ⟨δ', h1, h2⟩ := forR_inv (t := t) (b := b) W h hs
  rw [gSeq_of (δ' := δ') (by unfold gFor; rw [hi]; exact h1)]
  exact k δ' h2
theorem seq_st {a rest : DS → Option Res} {β : Type} {f : Res → Option β} {R : β → Prop} {δ : DS} (δ' : DS) (h : a δ = some (.nx δ')) (k : Gets ((rest δ').bind f) R) : Gets ((gSeq a rest δ).bind f) R := by
  rw [gSeq_of h]; exact k
theorem seq_no {c : DS → Option Bool} {a rest : DS → Option Res} {β : Type} {f : Res → Option β} {R : β → Prop} {δ : DS} (h : c δ = some false) (k : Gets ((rest δ).bind f) R) : Gets ((gSeq (gIf c a gSkip) rest δ).bind f) R := by
  rw [gSeq_of (δ' := δ) (by unfold gIf; rw [h]; rfl)]; exact k
theorem seq_iff {c : DS → Option Bool} {a b rest : DS → Option Res} {β : Type} {f : Res → Option β} {R : β → Prop} {δ : DS} (x : Bool) (h : c δ = some x) (k1 : x = true → Gets ((gSeq a rest δ).bind f) R) (k2 : x = false → Gets ((gSeq b rest δ).bind f) R) : Gets ((gSeq (gIf c a b) rest δ).bind f) R := by
  have e : gIf c a b δ = if x = true then a δ else b δ := by unfold gIf; rw [h]; rfl
  cases x with
  | true => rw [if_pos rfl] at e; have := k1 rfl; unfold gSeq at this ⊢; rw [e]; exact this
  | false => rw [if_neg Bool.false_ne_true] at e; have := k2 rfl; unfold gSeq at this ⊢; rw [e]; exact this
theorem ret {g : DS → Option D} {β : Type} {f : Res → Option β} {R : β → Prop} {δ : DS} (d : D) (h : g δ = some d) (k : Gets (f (.rt d)) R) : Gets ((gRet g δ).bind f) R := by
  unfold gRet; rw [h]; exact k
theorem st_seq {a b : DS → Option Res} {δ : DS} {r : Option Res} (δ' : DS) (h : a δ = some (.nx δ')) (k : b δ' = r) : gSeq a b δ = r := (gSeq_of h).trans k
theorem st_no {c : DS → Option Bool} {a : DS → Option Res} {δ : DS} (h : c δ = some false) : gIf c a gSkip δ = some (.nx δ) := by unfold gIf; rw [h]; rfl
theorem seq_skip {rest : DS → Option Res} {δ : DS} : gSeq gSkip rest δ = rest δ := rfl
theorem seq_assoc {a b c : DS → Option Res} {δ : DS} : gSeq (gSeq a b) c δ = gSeq a (gSeq b c) δ := by
  unfold gSeq
  cases a δ with
  | none => rfl
  | some r => cases r <;> rfl
theorem isi_i_i (i : Int) : dIsi "int" [.int i] = some (.bool true) := rfl
theorem isi_i_b (i : Int) : dIsi "bool" [.int i] = some (.bool false) := rfl
theorem isi_t_t (l : List D) : dIsi "tuple" [.tuple l] = some (.bool true) := rfl
theorem isi_l_l (l : List D) : dIsi "list" [.list l] = some (.bool true) := rfl
theorem isi_b_b (i : Bool) : dIsi "bool" [.bool i] = some (.bool true) := rfl
theorem isi_s_s (i : Str) : dIsi "str" [.str i] = some (.bool true) := rfl
theorem dEq_ii (a b : Int) : dEq (.int a) (.int b) = some (.bool (decide (a = b))) := rfl
theorem dNe_ii (a b : Int) : dNe (.int a) (.int b) = some (.bool (!decide (a = b))) := rfl
theorem range1_of {g : DS → Option (List D)} {δ : DS} {n : Nat} (h : g δ = some [.int (n : Nat)]) (hn : n ≤ 100000) : gRange1 g δ = some (rangeD 0 n) := by
  unfold gRange1
  rw [h, Option.bind_some]
  show (if -(2 ^ 62) ≤ ((n : Nat) : Int) ∧ ((n : Nat) : Int) < 2 ^ 62 then some (rangeD 0 ((n : Nat) : Int).toNat) else none) = _
  rw [Int.toNat_natCast, if_pos ⟨by omega, by omega⟩]
theorem call_of {G : List D → Option D} {n : Nat} {g : DS → Option (List D)} {δ : DS} {ds : List D} {r : Option D} (h : g δ = some ds) (hn : ds.length = n) (hG : G ds = r) : gCall G n g δ = r := by
  unfold gCall; rw [h, Option.bind_some, if_pos hn]; exact hG
theorem cons_of {a : DS → Option D} {r : DS → Option (List D)} {δ : DS} {x : D} {xs : List D} (h : a δ = some x) (h2 : r δ = some xs) : gConsA a r δ = some (x :: xs) := by unfold gConsA; rw [h, h2]; rfl
theorem set_of {i : Nat} {g : DS → Option D} {δ : DS} {d : D} (h : g δ = some d) : gSet i g δ = some (.nx (δ.set i (some d))) := by unfold gSet; rw [h]; rfl
theorem dLen_l (l : List D) : dLen [.list l] = some (.int l.length) := rfl
theorem dLen_t (l : List D) : dLen [.tuple l] = some (.int l.length) := rfl
theorem dLen_P (l : List Fr2) : dLen [dP l] = some (.int (l.length : Nat)) := by unfold dP; rw [dLen_l, List.length_map]
theorem dAdd_ii (a b : Int) : dAdd (.int a) (.int b) = some (.int (a + b)) := rfl
theorem dIx_l (l : List D) (i : Int) : dIx (.list l) (.int i) = atI l i := rfl
theorem dIx_t (l : List D) (i : Int) : dIx (.tuple l) (.int i) = atI l i := rfl
theorem dIx_P (l : List Fr2) (i : Int) : dIx (dP l) (.int i) = atI (l.map dF) i := rfl
theorem dIx_F0 (q : Fr2) : dIx (dF q) (.int 0) = some (.int q.1) := rfl
theorem dIx_F1 (q : Fr2) : dIx (dF q) (.int 1) = some (.int q.2) := rfl
theorem dCat_ll (a b : List D) : dCat (.list a) (.list b) = if a.length + b.length ≤ 100000 then some (a ++ b) else none := rfl
theorem dAdd_ll (a b : List D) : dAdd (.list a) (.list b) = if a.length + b.length ≤ 100000 then some (.list (a ++ b)) else none := rfl
theorem and_of {a b : DS → Option Bool} {δ : DS} {r : Option Bool} (h1 : a δ = some true) (h2 : b δ = r) : gAnd a b δ = r := by unfold gAnd; rw [h1]; exact h2
theorem not_of' {a : DS → Option Bool} {δ : DS} {x : Bool} (h : a δ = some x) : gNot a δ = some (!x) := by unfold gNot; rw [h]; rfl
theorem gB_of {g : DS → Option D} {δ : DS} {b : Bool} (h : g δ = some (.bool b)) : gB g δ = some b := by unfold gB; rw [h]; rfl
theorem gTru_of {g : DS → Option D} {δ : DS} {b : Bool} (h : g δ = some (.bool b)) : gTru g δ = some b := by unfold gTru; rw [h]; rfl
theorem g2_of {f : D → D → Option D} {a b : DS → Option D} {δ : DS} {x y : D} {r : Option D} (h1 : a δ = some x) (h2 : b δ = some y) (h3 : f x y = r) : g2 f a b δ = r := by unfold g2; rw [h1, h2]; exact h3
theorem andV_of {a b : DS → Option D} {δ : DS} {r : Option D} (h1 : a δ = some (.bool true)) (h2 : b δ = r) : gAndV a b δ = r := by unfold gAndV; rw [gB_of h1]; exact h2
end MyLaw
namespace MyLaw
open PySem L2 Q1
noncomputable abbrev g_leap : DS → Option Res := (gSeq (gSet 2 (g2 dSub (g1 dBits (gVar 0)) (gC (.int (240)))))
    (gSeq (gSet 3 (gTupD (gConsA (g2 dShr (gVar 0) (gVar 2)) (gConsA (gC (.int (1))) (gConsA (gC (.int (0))) gNilA)))))
    (gSeq (gSet 4 (gTupD (gConsA (g2 dShr (gVar 1) (gVar 2)) (gConsA (gC (.int (0))) (gConsA (gC (.int (1))) gNilA)))))
    (gSeq (gWhile (gB (g2 dNe (g2 dShr (g2 dIx (gVar 4) (gC (.int (0)))) (gC (.int (120)))) (gC (.int (0))))) (gSeq (gSet 5 (g2 dDiv (g2 dIx (gVar 3) (gC (.int (0)))) (g2 dIx (gVar 4) (gC (.int (0))))))
    (gSeq (gSet 6 (gTupD (gConsA (g2 dSub (g2 dIx (gVar 3) (gC (.int (0)))) (g2 dMulI (gVar 5) (g2 dIx (gVar 4) (gC (.int (0)))))) (gConsA (g2 dSub (g2 dIx (gVar 3) (gC (.int (1)))) (g2 dMulI (gVar 5) (g2 dIx (gVar 4) (gC (.int (1)))))) (gConsA (g2 dSub (g2 dIx (gVar 3) (gC (.int (2)))) (g2 dMulI (gVar 5) (g2 dIx (gVar 4) (gC (.int (2)))))) gNilA)))))
    (gSeq (gSet 3 (gVar 4))
    (gSet 4 (gVar 6))))))
    (gRet (gTupD (gConsA (gB1 dAbs (gConsA (g2 dAdd (g2 dMulI (g2 dIx (gVar 3) (gC (.int (1)))) (gVar 0)) (g2 dMulI (g2 dIx (gVar 3) (gC (.int (2)))) (gVar 1))) gNilA)) (gConsA (gB1 dAbs (gConsA (g2 dAdd (g2 dMulI (g2 dIx (gVar 4) (gC (.int (1)))) (gVar 0)) (g2 dMulI (g2 dIx (gVar 4) (gC (.int (2)))) (gVar 1))) gNilA)) gNilA))))))))
noncomputable def G_leap : List D → Option D := gDef 7 g_leap
theorem E_leap (a0 a1 : D) : G_leap [a0, a1] = (g_leap [some a0, some a1, none, none, none, none, none]).bind gOut := rfl
noncomputable abbrev g_greatest_divisor : DS → Option Res := (gSeq (gSet 0 (gB1 dAbs (gConsA (gVar 0) gNilA)))
    (gSeq (gSet 1 (gB1 dAbs (gConsA (gVar 1) gNilA)))
    (gSeq (gWhile (gB (g2 dNe (gVar 1) (gC (.int (0))))) (gSeq (gSet 2 (g2 dMod (gVar 0) (gVar 1)))
    (gSeq (gSet 0 (gVar 1))
    (gSeq (gSet 1 (gVar 2))
    (gIf (gB (g2 dGt (g1 dBits (gVar 1)) (gC (.int (4000))))) (gSeq (gSet 3 (gCall G_leap 2 (gConsA (gVar 0) (gConsA (gVar 1) gNilA))))
    (gSeq (gSet 0 (g2 dIx (gVar 3) (gC (.int (0)))))
    (gSet 1 (g2 dIx (gVar 3) (gC (.int (1))))))) gSkip)))))
    (gRet (gVar 0)))))
noncomputable def G_greatest_divisor : List D → Option D := gDef 4 g_greatest_divisor
theorem E_greatest_divisor (a0 a1 : D) : G_greatest_divisor [a0, a1] = (g_greatest_divisor [some a0, some a1, none, none]).bind gOut := rfl
noncomputable abbrev g_frac : DS → Option Res := (gSeq (gIf (gB (g2 dEq (gVar 1) (gC (.int (0))))) (fun _ => none) gSkip)
    (gSeq (gSet 2 (gCall G_greatest_divisor 2 (gConsA (gVar 0) (gConsA (gVar 1) gNilA))))
    (gSeq (gIf (gB (g2 dLt (gVar 1) (gC (.int (0))))) (gSet 2 (g1 dNeg (gVar 2))) gSkip)
    (gRet (gTupD (gConsA (g2 dDiv (gVar 0) (gVar 2)) (gConsA (g2 dDiv (gVar 1) (gVar 2)) gNilA)))))))
noncomputable def G_frac : List D → Option D := gDef 3 g_frac
theorem E_frac (a0 a1 : D) : G_frac [a0, a1] = (g_frac [some a0, some a1, none]).bind gOut := rfl
noncomputable abbrev g_plus : DS → Option Res := (gSeq (gSet 2 (gCall G_greatest_divisor 2 (gConsA (g2 dIx (gVar 0) (gC (.int (1)))) (gConsA (g2 dIx (gVar 1) (gC (.int (1)))) gNilA))))
    (gSeq (gSet 3 (g2 dDiv (g2 dIx (gVar 0) (gC (.int (1)))) (gVar 2)))
    (gSeq (gSet 4 (g2 dDiv (g2 dIx (gVar 1) (gC (.int (1)))) (gVar 2)))
    (gSeq (gSet 5 (gCall G_frac 2 (gConsA (g2 dAdd (g2 dMulI (g2 dIx (gVar 0) (gC (.int (0)))) (gVar 4)) (g2 dMulI (g2 dIx (gVar 1) (gC (.int (0)))) (gVar 3))) (gConsA (gVar 2) gNilA))))
    (gRet (gTupD (gConsA (g2 dIx (gVar 5) (gC (.int (0)))) (gConsA (g2 dMulI (g2 dMulI (gVar 3) (gVar 4)) (g2 dIx (gVar 5) (gC (.int (1))))) gNilA))))))))
noncomputable def G_plus : List D → Option D := gDef 6 g_plus
theorem E_plus (a0 a1 : D) : G_plus [a0, a1] = (g_plus [some a0, some a1, none, none, none, none]).bind gOut := rfl
noncomputable abbrev g_minus : DS → Option Res := (gRet (gCall G_plus 2 (gConsA (gVar 0) (gConsA (gTupD (gConsA (g1 dNeg (g2 dIx (gVar 1) (gC (.int (0))))) (gConsA (g2 dIx (gVar 1) (gC (.int (1)))) gNilA))) gNilA))))
noncomputable def G_minus : List D → Option D := gDef 2 g_minus
theorem E_minus (a0 a1 : D) : G_minus [a0, a1] = (g_minus [some a0, some a1]).bind gOut := rfl
noncomputable abbrev g_times : DS → Option Res := (gSeq (gSet 2 (gCall G_frac 2 (gConsA (g2 dIx (gVar 0) (gC (.int (0)))) (gConsA (g2 dIx (gVar 1) (gC (.int (1)))) gNilA))))
    (gSeq (gSet 3 (gCall G_frac 2 (gConsA (g2 dIx (gVar 1) (gC (.int (0)))) (gConsA (g2 dIx (gVar 0) (gC (.int (1)))) gNilA))))
    (gRet (gTupD (gConsA (g2 dMulI (g2 dIx (gVar 2) (gC (.int (0)))) (g2 dIx (gVar 3) (gC (.int (0))))) (gConsA (g2 dMulI (g2 dIx (gVar 2) (gC (.int (1)))) (g2 dIx (gVar 3) (gC (.int (1))))) gNilA))))))
noncomputable def G_times : List D → Option D := gDef 4 g_times
theorem E_times (a0 a1 : D) : G_times [a0, a1] = (g_times [some a0, some a1, none, none]).bind gOut := rfl
noncomputable abbrev g_over : DS → Option Res := (gRet (gCall G_times 2 (gConsA (gVar 0) (gConsA (gCall G_frac 2 (gConsA (g2 dIx (gVar 1) (gC (.int (1)))) (gConsA (g2 dIx (gVar 1) (gC (.int (0)))) gNilA))) gNilA))))
noncomputable def G_over : List D → Option D := gDef 2 g_over
theorem E_over (a0 a1 : D) : G_over [a0, a1] = (g_over [some a0, some a1]).bind gOut := rfl
noncomputable abbrev g_power : DS → Option Res := (gSeq (gSet 2 (gC (.int (1))))
    (gSeq (gSet 3 (gC (.int (1))))
    (gSeq (gFor (gRange1 (gConsA (gVar 1) gNilA)) (gName' 4)
      (gSeq (gSet 2 (g2 dMulI (gVar 2) (g2 dIx (gVar 0) (gC (.int (0))))))
    (gSet 3 (g2 dMulI (gVar 3) (g2 dIx (gVar 0) (gC (.int (1))))))))
    (gRet (gTupD (gConsA (gVar 2) (gConsA (gVar 3) gNilA)))))))
noncomputable def G_power : List D → Option D := gDef 5 g_power
theorem E_power (a0 a1 : D) : G_power [a0, a1] = (g_power [some a0, some a1, none, none, none]).bind gOut := rfl
noncomputable abbrev g_under : DS → Option Res := (gRet (g2 dLt (g2 dMulI (g2 dIx (gVar 0) (gC (.int (0)))) (g2 dIx (gVar 1) (gC (.int (1))))) (g2 dMulI (g2 dIx (gVar 1) (gC (.int (0)))) (g2 dIx (gVar 0) (gC (.int (1)))))))
noncomputable def G_under : List D → Option D := gDef 2 g_under
theorem E_under (a0 a1 : D) : G_under [a0, a1] = (g_under [some a0, some a1]).bind gOut := rfl
noncomputable abbrev g_check_shares : DS → Option Res := (gIf (gNot (gAnd (gTru (gCall G_under 2 (gConsA (gC (.tuple [(.int (0)), (.int (1))])) (gConsA (gVar 0) gNilA)))) (gAnd (gTru (gCall G_under 2 (gConsA (gVar 0) (gConsA (gVar 1) gNilA)))) (gTru (gCall G_under 2 (gConsA (gVar 1) (gConsA (gC (.tuple [(.int (1)), (.int (1))])) gNilA))))))) (fun _ => none) gSkip)
noncomputable def G_check_shares : List D → Option D := gDef 2 g_check_shares
theorem E_check_shares (a0 a1 : D) : G_check_shares [a0, a1] = (g_check_shares [some a0, some a1]).bind gOut := rfl
noncomputable abbrev g_often : DS → Option Res := (gSeq (gSet 2 (gCall G_power 2 (gConsA (gVar 1) (gConsA (g2 dIx (gVar 0) (gC (.int (0)))) gNilA))))
    (gSeq (gSet 3 (gCall G_power 2 (gConsA (gCall G_minus 2 (gConsA (gC (.tuple [(.int (1)), (.int (1))])) (gConsA (gVar 1) gNilA))) (gConsA (g2 dIx (gVar 0) (gC (.int (1)))) gNilA))))
    (gRet (gTupD (gConsA (g2 dMulI (g2 dIx (gVar 2) (gC (.int (0)))) (g2 dIx (gVar 3) (gC (.int (0))))) (gConsA (g2 dMulI (g2 dIx (gVar 2) (gC (.int (1)))) (g2 dIx (gVar 3) (gC (.int (1))))) gNilA))))))
noncomputable def G_often : List D → Option D := gDef 4 g_often
theorem E_often (a0 a1 : D) : G_often [a0, a1] = (g_often [some a0, some a1, none, none]).bind gOut := rfl
noncomputable abbrev g_ratio : DS → Option Res := (gSeq (gDrop (gCall G_check_shares 2 (gConsA (gVar 1) (gConsA (gVar 2) gNilA))))
    (gRet (gCall G_over 2 (gConsA (gCall G_often 2 (gConsA (gVar 0) (gConsA (gVar 2) gNilA))) (gConsA (gCall G_often 2 (gConsA (gVar 0) (gConsA (gVar 1) gNilA))) gNilA)))))
noncomputable def G_ratio : List D → Option D := gDef 3 g_ratio
theorem E_ratio (a0 a1 a2 : D) : G_ratio [a0, a1, a2] = (g_ratio [some a0, some a1, some a2]).bind gOut := rfl
noncomputable abbrev g_law_cell : DS → Option Res := (gSeq (gIf (gB (g2 dLt (gVar 1) (gB1 dLen (gConsA (gVar 0) gNilA)))) (gRet (g2 dIx (gVar 0) (gVar 1))) gSkip)
    (gRet (gC (.int (0)))))
noncomputable def G_law_cell : List D → Option D := gDef 2 g_law_cell
theorem E_law_cell (a0 a1 : D) : G_law_cell [a0, a1] = (g_law_cell [some a0, some a1]).bind gOut := rfl
noncomputable abbrev g_law_whole : DS → Option Res := (gRet (gAndV (gIsi "int" (gVar 0)) (g1 dNot (gIsi "bool" (gVar 0)))))
noncomputable def G_law_whole : List D → Option D := gDef 1 g_law_whole
theorem E_law_whole (a0 : D) : G_law_whole [a0] = (g_law_whole [some a0]).bind gOut := rfl
noncomputable abbrev g_law_divisor : DS → Option Res := (gSeq (gWhile (gB (g2 dNe (gVar 1) (gC (.int (0))))) (gPar 0 1 (gConsA (gVar 1) (gConsA (g2 dMod (gVar 0) (gVar 1)) gNilA))))
    (gRet (gB1 dAbs (gConsA (gVar 0) gNilA))))
noncomputable def G_law_divisor : List D → Option D := gDef 2 g_law_divisor
theorem E_law_divisor (a0 a1 : D) : G_law_divisor [a0, a1] = (g_law_divisor [some a0, some a1]).bind gOut := rfl
noncomputable abbrev g_law_is_frac : DS → Option Res := (gSeq (gIf (gOr (gNot (gTru (gIsi "tuple" (gVar 0)))) (gOr (gB (g2 dNe (gB1 dLen (gConsA (gVar 0) gNilA)) (gC (.int (2))))) (gOr (gNot (gTru (gCall G_law_whole 1 (gConsA (g2 dIx (gVar 0) (gC (.int (0)))) gNilA)))) (gNot (gTru (gCall G_law_whole 1 (gConsA (g2 dIx (gVar 0) (gC (.int (1)))) gNilA))))))) (gRet (gC (.bool false))) gSkip)
    (gSeq (gIf (gOr (gB (g2 dLt (g2 dIx (gVar 0) (gC (.int (1)))) (gC (.int (1))))) (gB (g2 dNe (gCall G_law_divisor 2 (gConsA (g2 dIx (gVar 0) (gC (.int (0)))) (gConsA (g2 dIx (gVar 0) (gC (.int (1)))) gNilA))) (gC (.int (1)))))) (gRet (gC (.bool false))) gSkip)
    (gRet (g2 dEq (g2 dMulI (g2 dIx (gVar 0) (gC (.int (0)))) (gVar 2)) (g2 dMulI (gVar 1) (g2 dIx (gVar 0) (gC (.int (1)))))))))
noncomputable def G_law_is_frac : List D → Option D := gDef 3 g_law_is_frac
theorem E_law_is_frac (a0 a1 a2 : D) : G_law_is_frac [a0, a1, a2] = (g_law_is_frac [some a0, some a1, some a2]).bind gOut := rfl
noncomputable abbrev g_law_shares : DS → Option Res := (gSeq (gSet 1 (g2 dAdd (gC (.int (3))) (g2 dMod (g2 dDiv (gVar 0) (gC (.int (2)))) (gC (.int (12))))))
    (gSeq (gSet 2 (g2 dDiv (gVar 0) (gC (.int (24)))))
    (gSeq (gIf (gB (g2 dEq (g2 dMod (gVar 0) (gC (.int (2)))) (gC (.int (1))))) (gSeq (gSet 1 (g2 dAdd (gC (.int (3))) (g2 dMod (g2 dDiv (gVar 0) (gC (.int (2)))) (g2 dPow (gC (.int (10))) (gC (.int (12)))))))
    (gSet 2 (g2 dAdd (g2 dDiv (g2 dDiv (gVar 0) (gC (.int (2)))) (g2 dPow (gC (.int (10))) (gC (.int (12))))) (g2 dDiv (gVar 0) (gC (.int (7))))))) gSkip)
    (gSeq (gSet 3 (g2 dAdd (gC (.int (1))) (g2 dMod (gVar 2) (g2 dSub (gVar 1) (gC (.int (2)))))))
    (gSeq (gSet 4 (g2 dAdd (g2 dAdd (gVar 3) (gC (.int (1)))) (g2 dMod (g2 dDiv (gVar 2) (g2 dSub (gVar 1) (gC (.int (2))))) (g2 dSub (g2 dSub (gVar 1) (gC (.int (1)))) (gVar 3)))))
    (gRet (gTupD (gConsA (gVar 3) (gConsA (gVar 4) (gConsA (gVar 1) gNilA))))))))))
noncomputable def G_law_shares : List D → Option D := gDef 5 g_law_shares
theorem E_law_shares (a0 : D) : G_law_shares [a0] = (g_law_shares [some a0, none, none, none, none]).bind gOut := rfl
noncomputable abbrev g_law_made : DS → Option Res := (gSeq (gSet 2 (gCall G_law_divisor 2 (gConsA (gVar 0) (gConsA (gVar 1) gNilA))))
    (gRet (gTupD (gConsA (g2 dDiv (gVar 0) (gVar 2)) (gConsA (g2 dDiv (gVar 1) (gVar 2)) gNilA)))))
noncomputable def G_law_made : List D → Option D := gDef 3 g_law_made
theorem E_law_made (a0 a1 : D) : G_law_made [a0, a1] = (g_law_made [some a0, some a1, none]).bind gOut := rfl
noncomputable abbrev g_law_times : DS → Option Res := (gSeq (gSet 2 (gC (.int (1))))
    (gSeq (gFor (gRange1 (gConsA (gVar 1) gNilA)) (gName' 3)
      (gSet 2 (g2 dMulI (gVar 2) (gVar 0))))
    (gRet (gVar 2))))
noncomputable def G_law_times : List D → Option D := gDef 4 g_law_times
theorem E_law_times (a0 a1 : D) : G_law_times [a0, a1] = (g_law_times [some a0, some a1, none, none]).bind gOut := rfl
noncomputable abbrev g_law_weight : DS → Option Res := (gRet (g2 dMulI (gCall G_law_times 2 (gConsA (gVar 1) (gConsA (g2 dIx (gVar 0) (gC (.int (0)))) gNilA))) (gCall G_law_times 2 (gConsA (g2 dSub (gVar 2) (gVar 1)) (gConsA (g2 dIx (gVar 0) (gC (.int (1)))) gNilA)))))
noncomputable def G_law_weight : List D → Option D := gDef 3 g_law_weight
theorem E_law_weight (a0 a1 a2 : D) : G_law_weight [a0, a1, a2] = (g_law_weight [some a0, some a1, some a2]).bind gOut := rfl
noncomputable abbrev g_law_under : DS → Option Res := (gRet (g2 dLt (g2 dMulI (g2 dIx (gVar 0) (gC (.int (0)))) (g2 dIx (gVar 1) (gC (.int (1))))) (g2 dMulI (g2 dIx (gVar 1) (gC (.int (0)))) (g2 dIx (gVar 0) (gC (.int (1)))))))
noncomputable def G_law_under : List D → Option D := gDef 2 g_law_under
theorem E_law_under (a0 a1 : D) : G_law_under [a0, a1] = (g_law_under [some a0, some a1]).bind gOut := rfl
noncomputable abbrev g_law_asked : DS → Option Res := (gSeq (gSet 3 (gCall G_law_made 2 (gConsA (g2 dIx (gVar 0) (gC (.int (0)))) (gConsA (g2 dIx (gVar 0) (gC (.int (2)))) gNilA))))
    (gSeq (gSet 4 (gCall G_law_made 2 (gConsA (g2 dIx (gVar 0) (gC (.int (1)))) (gConsA (g2 dIx (gVar 0) (gC (.int (2)))) gNilA))))
    (gSeq (gSet 5 (gCall G_ratio 3 (gConsA (gTupD (gConsA (gVar 1) (gConsA (gVar 2) gNilA))) (gConsA (gVar 3) (gConsA (gVar 4) gNilA)))))
    (gSeq (gSet 6 (gCall G_law_weight 3 (gConsA (gTupD (gConsA (gVar 1) (gConsA (gVar 2) gNilA))) (gConsA (g2 dIx (gVar 0) (gC (.int (1)))) (gConsA (g2 dIx (gVar 0) (gC (.int (2)))) gNilA)))))
    (gSeq (gSet 7 (gCall G_law_weight 3 (gConsA (gTupD (gConsA (gVar 1) (gConsA (gVar 2) gNilA))) (gConsA (g2 dIx (gVar 0) (gC (.int (0)))) (gConsA (g2 dIx (gVar 0) (gC (.int (2)))) gNilA)))))
    (gSeq (gIf (gNot (gTru (gCall G_law_is_frac 3 (gConsA (gVar 5) (gConsA (gVar 6) (gConsA (gVar 7) gNilA)))))) (gRet (gC (.bool false))) gSkip)
    (gRet (gAndV (gCall G_law_under 2 (gConsA (gVar 5) (gConsA (gCall G_ratio 3 (gConsA (gTupD (gConsA (g2 dAdd (gVar 1) (gC (.int (1)))) (gConsA (gVar 2) gNilA))) (gConsA (gVar 3) (gConsA (gVar 4) gNilA)))) gNilA))) (gCall G_law_under 2 (gConsA (gCall G_ratio 3 (gConsA (gTupD (gConsA (gVar 1) (gConsA (g2 dAdd (gVar 2) (gC (.int (1)))) gNilA))) (gConsA (gVar 3) (gConsA (gVar 4) gNilA)))) (gConsA (gVar 5) gNilA)))))))))))
noncomputable def G_law_asked : List D → Option D := gDef 8 g_law_asked
theorem E_law_asked (a0 a1 a2 : D) : G_law_asked [a0, a1, a2] = (g_law_asked [some a0, some a1, some a2, none, none, none, none, none]).bind gOut := rfl
noncomputable abbrev g_law : DS → Option Res := (gSeq (gFor (gRange1 (gConsA (gB1 dMax2 (gConsA (gC (.int (1))) (gConsA (gB1 dMin2 (gConsA (gC (.int (20))) (gConsA (gB1 dLen (gConsA (gVar 0) gNilA)) gNilA))) gNilA))) gNilA)) (gName' 1)
      (gSeq (gSet 2 (gCall G_law_cell 2 (gConsA (gVar 0) (gConsA (g2 dAdd (gVar 1) (gC (.int (1)))) gNilA))))
    (gSeq (gSet 3 (gC (.int (13))))
    (gSeq (gIf (gB (g2 dEq (g2 dMod (gVar 2) (gC (.int (4)))) (gC (.int (1))))) (gSet 3 (gC (.int (31)))) gSkip)
    (gSeq (gIf (gAnd (gB (g2 dEq (gVar 1) (gC (.int (0))))) (gB (g2 dEq (g2 dMod (gVar 2) (gC (.int (8)))) (gC (.int (5)))))) (gSet 3 (gC (.int (60)))) gSkip)
    (gIf (gNot (gTru (gCall G_law_asked 3 (gConsA (gCall G_law_shares 1 (gConsA (gCall G_law_cell 2 (gConsA (gVar 0) (gConsA (gVar 1) gNilA))) gNilA)) (gConsA (g2 dMod (g2 dDiv (gVar 2) (gC (.int (4)))) (gVar 3)) (gConsA (g2 dMod (g2 dDiv (g2 dDiv (gVar 2) (gC (.int (4)))) (gVar 3)) (gVar 3)) gNilA)))))) (gRet (gC (.bool false))) gSkip))))))
    (gRet (gC (.bool true))))
noncomputable def G_law : List D → Option D := gDef 4 g_law
theorem E_law (a0 : D) : G_law [a0] = (g_law [some a0, none, none, none]).bind gOut := rfl
end MyLaw
open L2
local macro_rules | `(tactic| walk_at "pu") => `(tactic| simp only [gSeq, gSkip, gIf, gSet, gSetN, gRet, gDrop, gAsg, gVar, gC, gLst, g2, g2N, g1, gB, gNot, gAnd, gOr, gAndV, gOrV, gIfE, gTru, dTru, gConsA, gNilA, gTupD, gLstN, gCall, gCallN, gCallSh, gCallShN, gB1, gB1N, gPar, gApp, gPop, gSetIx, gAugI, gFor, gItems, gReversed, gSlL, gPart, gNoPart, gChain, gIsi, gName', gTupT, gConsT, gNilT, captD, dI_ok, MyLaw.dLen_l, MyLaw.dLen_t, MyLaw.dLen_P, MyLaw.dAdd_ii, MyLaw.dIx_l, MyLaw.dIx_t, MyLaw.dIx_P, MyLaw.dIx_F0, MyLaw.dIx_F1, MyLaw.dCat_ll, MyLaw.dAdd_ll, dAbs, dMax2, dMin2, dInt, dListN, dTupleOf, dNeg, dNot, MyLaw.isi_i_i, MyLaw.isi_i_b, MyLaw.isi_t_t, MyLaw.isi_l_l, MyLaw.isi_b_b, MyLaw.isi_s_s, MyLaw.atI0, MyLaw.atI1, MyLaw.dEq_ii, MyLaw.dNe_ii, gOut, gOutN, dBits, noL, noLs,
  List.getElem?_cons_zero, List.getElem?_cons_succ, List.set_cons_zero, List.set_cons_succ, List.map_cons, List.map_nil, Option.join_some, Option.bind_some, Option.map_some, List.length_cons, List.length_nil, Option.bind_none, if_true, if_false, decide_eq_true_eq, Bool.not_eq_true', decide_eq_false_iff_not, Bool.not_true, Bool.not_false, reduceIte, Nat.reduceAdd, Nat.reduceLeDiff, Nat.reduceEqDiff, Bool.false_eq_true, Bool.and_true, Bool.and_self, Bool.true_and, Bool.and_false, Bool.or_false, Bool.or_true, Bool.false_or, Bool.true_or])
namespace MyLaw
open PySem L2 Q1
theorem v_law_cell (ns : List Int) (k : Nat) : G_law_cell [.list (ns.map .int), .int k] = some (.int (ns.getD k 0)) := by
  rw [E_law_cell]
  walk_at "pu"
  rw [List.length_map, List.getD_eq_getElem?_getD]
  by_cases h : k < ns.length
  · rw [if_pos (by omega), atI_nat (v := .int ns[k]) (by rw [List.getElem?_map, List.getElem?_eq_getElem h]; rfl), List.getElem?_eq_getElem h]
    rfl
  · rw [if_neg (by omega), List.getElem?_eq_none (by omega)]
    rfl
theorem v_law_whole (i : Int) : G_law_whole [.int i] = some (.bool true) := by
  rw [E_law_whole]
  walk_at "pu"
theorem v_law_divisor (a b : Int) (hb : 0 ≤ b) : G_law_divisor [.int a, .int b] = some (.int (Int.gcd a b : Nat)) := by
  rw [E_law_divisor]
  refine of_gets ?_
  refine seq_while (fun m δ => ∃ x : Int, δ = [some (.int x), some (.int (m : Nat))] ∧ Int.gcd x (m : Int) = Int.gcd a b) (fun δ => ∃ x : Int, δ = [some (.int x), some (.int 0)] ∧ x.natAbs = Int.gcd a b) b.toNat ?_ ?_ ?_
  · exact ⟨a, by rw [Int.toNat_of_nonneg hb], by rw [Int.toNat_of_nonneg hb]⟩
  · rintro m δ ⟨x, rfl, hg⟩
    by_cases hm : m = 0
    · subst hm
      exact .inl ⟨by walk_at "pu"; rfl, x, rfl, by simpa using hg⟩
    · have h1 : 0 ≤ x % (m : Int) := Int.emod_nonneg _ (by omega)
      have h2 : x % (m : Int) < m := Int.emod_lt_of_pos _ (by omega)
      refine .inr ⟨by walk_at "pu"; simp; omega, [some (.int m), some (.int (x % (m : Int)))], (x % (m : Int)).toNat, by walk_at "pu"; rw [d_mod (by omega)]; rfl, by omega, m, by rw [Int.toNat_of_nonneg h1], ?_⟩
      rw [Int.toNat_of_nonneg h1, gcd_step, hg]
  · rintro δ' ⟨x, rfl, h2⟩
    exact ret _ (by walk_at "pu"; rw [abs_nat, h2]) (.mk rfl rfl)
theorem v_law_is_frac {n d t b : Int} (hq : IsQ n d t b) (m1 : IntMulOk n b) (m2 : IntMulOk t d) : G_law_is_frac [dF (n, d), .int t, .int b] = some (.bool true) := by
  rw [E_law_is_frac]
  refine of_gets ?_
  have hp := hq.pos
  have hg := v_law_divisor n d (by omega)
  rw [hq.cop] at hg
  unfold dF
  refine seq_no ?_ (seq_no ?_ (ret (.bool true) ?_ (.mk rfl rfl)))
  · walk_at "pu"
    simp only [v_law_whole]
    walk_at "pu"
    rfl
  · walk_at "pu"
    rw [if_neg (by omega), hg]
    rfl
  · walk_at "pu"
    rw [d_mul m1, d_mul m2, hq.eq]
    walk_at "pu"
    simp
theorem v_law_made (t b : Int) (hb : 1 ≤ b) (hb2 : bt b ≤ 9000) : G_law_made [.int t, .int b] = some (dF (qmk t b)) := by
  rw [E_law_made]
  refine of_gets ?_
  have hb0 : b ≠ 0 := by omega
  have hg : 0 < Int.gcd t b := Int.gcd_pos_of_ne_zero_right _ hb0
  have hgb : bt ((Int.gcd t b : Nat) : Int) ≤ 9000 := by
    refine bt_le ?_ hb2
    have : (Int.gcd t b) ∣ b.natAbs := Nat.gcd_dvd_right _ _
    have := Nat.le_of_dvd (by omega) this
    omega
  have e : dv t b = (Int.gcd t b : Int) := by unfold dv; rw [if_neg (by omega)]
  refine seq_st [some (.int t), some (.int b), some (.int (Int.gcd t b : Nat))] (by walk_at "pu"; rw [v_law_divisor t b (by omega)]; rfl) (ret (dF (qmk t b)) ?_ (.mk rfl rfl))
  walk_at "pu"
  rw [d_divS (by omega) hgb, d_divS (by omega) hgb, ← e]
  rfl
end MyLaw
namespace MyLaw
open PySem L2 Q1
theorem atI2' {α : Type} {x y z : α} {xs : List α} : atI (x :: y :: z :: xs) 2 = some z := atI_nat (j := 2) rfl
theorem d_shr {a : Int} {k : Nat} : dShr (.int a) (.int (k : Nat)) = some (.int (a / 2 ^ k)) := by
  have := dIc_ok (C := fun _ j => 0 ≤ j) (g := fun i j => .int (i / 2 ^ j.toNat)) (a := a) (b := (k : Int)) (by omega)
  rwa [Int.toNat_natCast] at this
theorem drop_of {g : DS → Option D} {δ : DS} {d : D} (h : g δ = some d) : gDrop g δ = some (.nx δ) := by unfold gDrop; rw [h]; rfl
theorem tup3_of {a b c : DS → Option D} {δ : DS} {x y z : D} (h1 : a δ = some x) (h2 : b δ = some y) (h3 : c δ = some z) : gTupD (gConsA a (gConsA b (gConsA c gNilA))) δ = some (.tuple [x, y, z]) := by
  unfold gTupD; rw [cons_of h1 (cons_of h2 (cons_of h3 rfl))]; rfl
theorem tup2_of {a b : DS → Option D} {δ : DS} {x y : D} (h1 : a δ = some x) (h2 : b δ = some y) : gTupD (gConsA a (gConsA b gNilA)) δ = some (.tuple [x, y]) := by
  unfold gTupD; rw [cons_of h1 (cons_of h2 rfl)]; rfl
theorem abs_of {a : DS → Option D} {δ : DS} {i : Int} (h : a δ = some (.int i)) : gB1 dAbs (gConsA a gNilA) δ = some (.int (i.natAbs : Nat)) := by
  unfold gB1; rw [cons_of h rfl]; show some (PyData.int (if i < 0 then -i else i)) = _; rw [abs_nat]
theorem v_leap (x y : Nat) (hxy : y < x) (hy : 4000 < bt (y : Int)) (hx : bt (x : Int) ≤ 9000) : ∃ p0 p1 : Nat, G_leap [.int (x : Nat), .int (y : Nat)] = some (.tuple [.int (p0 : Nat), .int (p1 : Nat)]) ∧ Nat.gcd p0 p1 = Nat.gcd x y ∧ p1 < x := by
  obtain ⟨n, hn⟩ : ∃ n, n = bt (x : Int) := ⟨_, rfl⟩
  have hyx : bt (y : Int) ≤ bt (x : Int) := bt_le (by rw [Int.natAbs_natCast, Int.natAbs_natCast]; omega) (Nat.le_refl _)
  have c0 : ((n : Int) - 240) = ((n - 240 : Nat) : Int) := by omega
  have up : x < 2 ^ n := by have := bt_lt (x := (x : Int)) (m := n) (by omega); rwa [Int.natAbs_natCast] at this
  have lo : 2 ^ (n - 1) ≤ x := by
    have h1 : ¬ bt (x : Int) ≤ n - 1 := by omega
    have h2 : ¬ (x : Int).natAbs < 2 ^ (n - 1) := fun h => h1 (bt_of h)
    rw [Int.natAbs_natCast] at h2; omega
  have hC : (0 : Int) < 2 ^ (n - 240) := Int.pow_pos (by decide)
  have e1 : (2 : Int) ^ 240 * 2 ^ (n - 240) = ((2 ^ n : Nat) : Int) := by rw [← Int.pow_add, show 240 + (n - 240) = n by omega]; simp
  have e2 : (2 : Int) ^ 239 * 2 ^ (n - 240) = ((2 ^ (n - 1) : Nat) : Int) := by rw [← Int.pow_add, show 239 + (n - 240) = n - 1 by omega]; simp
  obtain ⟨A, hA⟩ : ∃ A : Int, A = (x : Int) / 2 ^ (n - 240) := ⟨_, rfl⟩
  obtain ⟨B, hB⟩ : ∃ B : Int, B = (y : Int) / 2 ^ (n - 240) := ⟨_, rfl⟩
  have hA2 : A < 2 ^ 240 := by rw [hA]; exact Int.ediv_lt_of_lt_mul hC (by rw [e1]; omega)
  have hB2 : B < 2 ^ 240 := by rw [hB]; exact Int.ediv_lt_of_lt_mul hC (by rw [e1]; omega)
  have hA3 : 2 ^ 239 ≤ A := by rw [hA]; exact Int.le_ediv_of_mul_le hC (by rw [e2]; omega)
  have hB0 : 0 ≤ B := by rw [hB]; exact Int.ediv_nonneg (by omega) (by omega)
  have bA : bt A ≤ 240 := bt_of (by omega)
  have bB : bt B ≤ 240 := bt_of (by omega)
  suffices key : Gets (G_leap [.int (x : Nat), .int (y : Nat)]) fun d => ∃ p0 p1 : Nat, d = .tuple [.int (p0 : Nat), .int (p1 : Nat)] ∧ Nat.gcd p0 p1 = Nat.gcd x y ∧ p1 < x by
    obtain ⟨_, e, p0, p1, rfl, h⟩ := key
    exact ⟨p0, p1, e, h⟩
  rw [E_leap]
  refine seq_st [some (.int (x : Nat)), some (.int (y : Nat)), some (.int ((n - 240 : Nat) : Int)), none, none, none, none] (set_of (g2_of rfl rfl (by show some (PyData.int ((bt (x : Int) : Nat) - 240 : Int)) = _; rw [← hn, c0]))) ?_
  refine seq_st [some (.int (x : Nat)), some (.int (y : Nat)), some (.int ((n - 240 : Nat) : Int)), some (.tuple [.int A, .int 1, .int 0]), none, none, none] (set_of (tup3_of (g2_of rfl rfl (by rw [hA]; exact d_shr)) rfl rfl)) ?_
  refine seq_st [some (.int (x : Nat)), some (.int (y : Nat)), some (.int ((n - 240 : Nat) : Int)), some (.tuple [.int A, .int 1, .int 0]), some (.tuple [.int B, .int 0, .int 1]), none, none] (set_of (tup3_of (g2_of rfl rfl (by rw [hB]; exact d_shr)) rfl rfl)) ?_
  have szb : ∀ {a b u1 u2 l1 l2 : Int}, Lp A B a b u1 u2 l1 l2 → bt a ≤ 400 ∧ bt b ≤ 400 ∧ bt u1 ≤ 121 ∧ bt u2 ≤ 121 ∧ bt l1 ≤ 121 ∧ bt l2 ≤ 121 := by
    intro a b u1 u2 l1 l2 h
    obtain ⟨s1, s2, s3, s4⟩ := h.sizes hA2 hB2
    have t1 : bt l1 ≤ 121 := bt_of (by omega)
    have t2 : bt l2 ≤ 121 := bt_of (by omega)
    have t3 : bt u1 ≤ 121 := bt_of (by omega)
    have t4 : bt u2 ≤ 121 := bt_of (by omega)
    obtain ⟨e, U1, U2, L1, L2, he, h1, h2, h3, h4, q1, q2, q3, q4, hd, ha, hb', h5, h6⟩ := h.ex
    refine ⟨?_, ?_, t3, t4, t1, t2⟩
    · have : a = u1 * A + u2 * B := by rw [ha, q1, q2]; grind
      rw [this]; exact bt_up (bt_add (bt_mul t3 bA) (bt_mul t4 bB)) (by decide)
    · have : b = l1 * A + l2 * B := by rw [hb', q3, q4]; grind
      rw [this]; exact bt_up (bt_add (bt_mul t1 bA) (bt_mul t2 bB)) (by decide)
  refine seq_while (fun m δ => ∃ (a b u1 u2 l1 l2 : Int) (r5 r6 : Option D), δ = [some (.int (x : Nat)), some (.int (y : Nat)), some (.int ((n - 240 : Nat) : Int)), some (.tuple [.int a, .int u1, .int u2]), some (.tuple [.int b, .int l1, .int l2]), r5, r6] ∧ Lp A B a b u1 u2 l1 l2 ∧ b.toNat = m)
    (fun δ => ∃ (a b u1 u2 l1 l2 : Int) (r5 r6 : Option D), δ = [some (.int (x : Nat)), some (.int (y : Nat)), some (.int ((n - 240 : Nat) : Int)), some (.tuple [.int a, .int u1, .int u2]), some (.tuple [.int b, .int l1, .int l2]), r5, r6] ∧ Lp A B a b u1 u2 l1 l2 ∧ b < 2 ^ 120) B.toNat ?_ ?_ ?_
  · exact ⟨A, B, 1, 0, 0, 1, none, none, rfl, Lp.start (by omega) hB0, rfl⟩
  · rintro m δ ⟨a, b, u1, u2, l1, l2, r5, r6, rfl, hL, hm⟩
    have hb0 := hL.b0
    have ha0 := hL.a0
    obtain ⟨z1, z2, z3, z4, z5, z6⟩ := szb hL
    have hc : gB (g2 dNe (g2 dShr (g2 dIx (gVar 4) (gC (.int (0)))) (gC (.int (120)))) (gC (.int (0)))) [some (.int (x : Nat)), some (.int (y : Nat)), some (.int ((n - 240 : Nat) : Int)), some (.tuple [.int a, .int u1, .int u2]), some (.tuple [.int b, .int l1, .int l2]), r5, r6] = some (!decide (b / 2 ^ 120 = 0)) :=
      gB_of (g2_of (g2_of (g2_of rfl rfl atI0) rfl (d_shr (k := 120))) rfl rfl)
    by_cases hb : b < 2 ^ 120
    · refine .inl ⟨hc.trans ?_, a, b, u1, u2, l1, l2, r5, r6, rfl, hL, hb⟩
      rw [Int.ediv_eq_zero_of_lt hb0 hb]; rfl
    · have hne : b / 2 ^ 120 ≠ 0 := by
        have : 1 ≤ b / 2 ^ 120 := Int.le_ediv_of_mul_le (by decide) (by omega)
        omega
      have hs := hL.step hA2 hB2 (by omega)
      have bq : bt (a / b) ≤ 400 := by
        rw [← Int.fdiv_eq_ediv_of_nonneg _ (show 0 ≤ b by omega)]
        exact intBits_fdiv_le z1
      have hm' : a - a / b * b = a % b := by have := Int.emod_add_ediv_mul a b; omega
      refine .inr ⟨hc.trans (by rw [decide_eq_false hne]; rfl), [some (.int (x : Nat)), some (.int (y : Nat)), some (.int ((n - 240 : Nat) : Int)), some (.tuple [.int b, .int l1, .int l2]), some (.tuple [.int (a - a / b * b), .int (u1 - a / b * l1), .int (u2 - a / b * l2)]), some (.int (a / b)), some (.tuple [.int (a - a / b * b), .int (u1 - a / b * l1), .int (u2 - a / b * l2)])], (a - a / b * b).toNat, ?_, ?_, b, _, l1, l2, _, _, _, _, rfl, hs, rfl⟩
      · refine st_seq [some (.int (x : Nat)), some (.int (y : Nat)), some (.int ((n - 240 : Nat) : Int)), some (.tuple [.int a, .int u1, .int u2]), some (.tuple [.int b, .int l1, .int l2]), some (.int (a / b)), r6] (set_of (g2_of (g2_of rfl rfl atI0) (g2_of rfl rfl atI0) (d_div (by omega) (bt_up z2 (by decide))))) ?_
        refine st_seq [some (.int (x : Nat)), some (.int (y : Nat)), some (.int ((n - 240 : Nat) : Int)), some (.tuple [.int a, .int u1, .int u2]), some (.tuple [.int b, .int l1, .int l2]), some (.int (a / b)), some (.tuple [.int (a - a / b * b), .int (u1 - a / b * l1), .int (u2 - a / b * l2)])] (set_of (tup3_of
          (g2_of (g2_of rfl rfl atI0) (g2_of rfl (g2_of rfl rfl atI0) (d_mul (mulOk bq z2))) rfl) (g2_of (g2_of rfl rfl atI1) (g2_of rfl (g2_of rfl rfl atI1) (d_mul (mulOk bq z5))) rfl) (g2_of (g2_of rfl rfl atI2') (g2_of rfl (g2_of rfl rfl atI2') (d_mul (mulOk bq z6))) rfl))) ?_
        exact st_seq _ (set_of rfl) (set_of rfl)
      · rw [hm']
        have g1 := Int.emod_nonneg a (show b ≠ 0 by omega)
        have g2 := Int.emod_lt_of_pos a (show 0 < b by omega)
        omega
  · rintro δ' ⟨a, b, u1, u2, l1, l2, r5, r6, rfl, hL, hb⟩
    obtain ⟨z1, z2, z3, z4, z5, z6⟩ := szb hL
    have bx : bt ((x : Nat) : Int) ≤ 9000 := hx
    have by' : bt ((y : Nat) : Int) ≤ 9000 := Nat.le_trans hyx hx
    obtain ⟨d1, d2⟩ := hL.done hA hB hA2 hB2 hA3 hb
    refine ret (.tuple [.int ((u1 * x + u2 * y).natAbs : Nat), .int ((l1 * x + l2 * y).natAbs : Nat)]) (tup2_of (abs_of (g2_of (g2_of (g2_of rfl rfl atI1) rfl (d_mul (mulOk z3 bx))) (g2_of (g2_of rfl rfl atI2') rfl (d_mul (mulOk z4 by'))) rfl)) (abs_of (g2_of (g2_of (g2_of rfl rfl atI1) rfl (d_mul (mulOk z5 bx))) (g2_of (g2_of rfl rfl atI2') rfl (d_mul (mulOk z6 by'))) rfl))) (.mk rfl ⟨_, _, rfl, d1, d2⟩)
theorem v_gcdG (a b : Int) (hb : bt b ≤ 9000) : G_greatest_divisor [.int a, .int b] = some (.int (Int.gcd a b : Nat)) := by
  rw [E_greatest_divisor]
  refine of_gets ?_
  refine seq_st [some (.int (a.natAbs : Nat)), some (.int b), none, none] (set_of (abs_of rfl)) ?_
  refine seq_st [some (.int (a.natAbs : Nat)), some (.int (b.natAbs : Nat)), none, none] (set_of (abs_of rfl)) ?_
  refine seq_while (fun m δ => ∃ (x : Nat) (r p : Option D), δ = [some (.int (x : Nat)), some (.int (m : Nat)), r, p] ∧ bt (m : Int) ≤ 9000 ∧ Nat.gcd x m = Int.gcd a b) (fun δ => ∃ (x : Nat) (r p : Option D), δ = [some (.int (x : Nat)), some (.int 0), r, p] ∧ x = Int.gcd a b) b.natAbs ?_ ?_ ?_
  · exact ⟨_, none, none, rfl, bt_le (by simp) hb, rfl⟩
  · rintro m δ ⟨x, r, p, rfl, hbm, hg⟩
    by_cases hm : m = 0
    · subst hm
      exact .inl ⟨by walk_at "pu"; rfl, x, r, p, rfl, by simpa using hg⟩
    · have hlt : x % m < m := Nat.mod_lt _ (by omega)
      have e : ((x : Int) % (m : Int)) = ((x % m : Nat) : Int) := by omega
      have hb' : bt ((x % m : Nat) : Int) ≤ 9000 := bt_le (by simp; omega) hbm
      have hg' : Nat.gcd m (x % m) = Int.gcd a b := by rw [← hg, Nat.gcd_comm x m, Nat.gcd_rec m x, Nat.gcd_comm]
      have hc : gB (g2 dNe (gVar 1) (gC (.int (0)))) [some (.int (x : Nat)), some (.int (m : Nat)), r, p] = some true := by walk_at "pu"; simp; omega
      have hd : ∀ p', gB (g2 dGt (g1 dBits (gVar 1)) (gC (.int (4000)))) [some (.int (m : Nat)), some (.int ((x % m : Nat) : Int)), some (.int ((x % m : Nat) : Int)), p'] = some (decide ((4000 : Int) < (bt ((x % m : Nat) : Int) : Nat))) := by
        intro p'; walk_at "pu"
      have s1 : ∀ k, gSeq (gSet 2 (g2 dMod (gVar 0) (gVar 1))) (gSeq (gSet 0 (gVar 1)) (gSeq (gSet 1 (gVar 2)) k)) [some (.int (x : Nat)), some (.int (m : Nat)), r, p] = k [some (.int (m : Nat)), some (.int ((x % m : Nat) : Int)), some (.int ((x % m : Nat) : Int)), p] := by
        intro k
        exact st_seq [some (.int (x : Nat)), some (.int (m : Nat)), some (.int ((x % m : Nat) : Int)), p] (set_of (g2_of rfl rfl (by rw [d_mod (by omega), e]))) (st_seq [some (.int (m : Nat)), some (.int (m : Nat)), some (.int ((x % m : Nat) : Int)), p] (set_of rfl) (st_seq _ (set_of rfl) rfl))
      by_cases hbig : 4000 < bt ((x % m : Nat) : Int)
      · obtain ⟨p0, p1, ep, hg2, hlt2⟩ := v_leap m (x % m) hlt hbig hbm
        refine .inr ⟨hc, [some (.int (p0 : Nat)), some (.int (p1 : Nat)), some (.int ((x % m : Nat) : Int)), some (.tuple [.int (p0 : Nat), .int (p1 : Nat)])], p1, ?_, hlt2, p0, _, _, rfl, bt_le (by simp; omega) hbm, hg2.trans hg'⟩
        rw [s1]
        unfold gIf
        rw [hd, decide_eq_true (by omega), Option.bind_some, if_pos rfl]
        exact st_seq [some (.int (m : Nat)), some (.int ((x % m : Nat) : Int)), some (.int ((x % m : Nat) : Int)), some (.tuple [.int (p0 : Nat), .int (p1 : Nat)])] (set_of (call_of (cons_of rfl (cons_of rfl rfl)) rfl ep)) (st_seq [some (.int (p0 : Nat)), some (.int ((x % m : Nat) : Int)), some (.int ((x % m : Nat) : Int)), some (.tuple [.int (p0 : Nat), .int (p1 : Nat)])] (set_of (g2_of rfl rfl atI0)) (set_of (g2_of rfl rfl atI1)))
      · refine .inr ⟨hc, [some (.int m), some (.int ((x % m : Nat) : Int)), some (.int ((x % m : Nat) : Int)), p], x % m, ?_, hlt, m, _, _, rfl, hb', hg'⟩
        rw [s1]
        exact st_no ((hd p).trans (by rw [decide_eq_false (by omega)]))
  · rintro δ' ⟨x, r, p, rfl, h2⟩
    exact ret _ (by walk_at "pu"; rw [h2]) (.mk rfl rfl)
theorem v_fracG (t b : Int) (hb0 : b ≠ 0) (hb : bt b ≤ 9000) : G_frac [.int t, .int b] = some (dF (qmk t b)) := by
  rw [E_frac]
  refine of_gets ?_
  have hg := v_gcdG t b hb
  have hd0 : dv t b ≠ 0 := dv_ne hb0
  have hgb : bt (dv t b) ≤ 9000 := by
    refine bt_le ?_ hb
    have : (Int.gcd t b) ∣ b.natAbs := Nat.gcd_dvd_right _ _
    have := Nat.le_of_dvd (by omega) this
    unfold dv; split <;> omega
  refine seq_no (by walk_at "pu"; rw [decide_eq_false hb0]) ?_
  refine seq_st [some (.int t), some (.int b), some (.int (Int.gcd t b : Nat))] (by walk_at "pu"; rw [hg]; rfl) ?_
  refine seq_st [some (.int t), some (.int b), some (.int (dv t b))] ?_ ?_
  · walk_at "pu"
    unfold dv
    split <;> rfl
  · refine ret (dF (qmk t b)) ?_ (.mk rfl rfl)
    walk_at "pu"
    rw [d_divS hd0 hgb, d_divS hd0 hgb]
    rfl
structure Sz (m : Nat) (q : Fr2) : Prop where
  low : Low q
  top : bt q.1 ≤ m
  bot : bt q.2 ≤ m
theorem Sz.ne {m : Nat} {q : Fr2} (h : Sz m q) : q.2 ≠ 0 := by have := h.low.1; omega
theorem Sz.up {m n : Nat} {q : Fr2} (h : Sz m q) (hn : m ≤ n) : Sz n q := ⟨h.low, bt_up h.top hn, bt_up h.bot hn⟩
theorem sz_mk {m : Nat} {t b : Int} (hb : b ≠ 0) (h1 : bt t ≤ m) (h2 : bt b ≤ m) : Sz m (qmk t b) := ⟨low_mk hb, bt_le ((qmk_ok hb).top_le hb) h1, bt_le ((qmk_ok hb).bot_le hb) h2⟩
theorem sz_mul {m : Nat} {a b : Fr2} (ha : Sz m a) (hb : Sz m b) : Sz (m + m) (qmul a b) := sz_mk (Int.mul_ne_zero ha.ne hb.ne) (bt_mul ha.top hb.top) (bt_mul ha.bot hb.bot)
theorem v_timesG (a b : Fr2) (ha : Sz 9000 a) (hb : Sz 9000 b) : G_times [dF a, dF b] = some (dF (qmul a b)) := by
  rw [E_times]
  refine of_gets ?_
  have f1 := v_fracG a.1 b.2 hb.ne hb.bot
  have f2 := v_fracG b.1 a.2 ha.ne ha.bot
  have o1 := qmk_ok (t := a.1) hb.ne
  have o2 := qmk_ok (t := b.1) ha.ne
  have hq := (times_ok ha.low.2 hb.low.2 o1 o2).qm (Int.mul_ne_zero ha.ne hb.ne)
  have c1 := bt_le (o1.top_le hb.ne) ha.top
  have c2 := bt_le (o1.bot_le hb.ne) hb.bot
  have c3 := bt_le (o2.top_le ha.ne) hb.top
  have c4 := bt_le (o2.bot_le ha.ne) ha.bot
  refine seq_st [some (dF a), some (dF b), some (dF (qmk a.1 b.2)), none] (by walk_at "pu"; rw [f1]; rfl) ?_
  refine seq_st [some (dF a), some (dF b), some (dF (qmk a.1 b.2)), some (dF (qmk b.1 a.2))] (by walk_at "pu"; rw [f2]; rfl) ?_
  refine ret (dF (qmul a b)) ?_ (.mk rfl rfl)
  unfold qmul
  rw [← hq]
  walk_at "pu"
  rw [d_mul (mulOk c1 c3), d_mul (mulOk c2 c4)]
  rfl
theorem v_plusG (a b : Fr2) (ha : Sz 9000 a) (hb : Sz 9000 b) : G_plus [dF a, dF b] = some (dF (qadd a b)) := by
  rw [E_plus]
  refine of_gets ?_
  obtain ⟨x, y, hg, e1, e2, hc⟩ := gcd_facts (t := a.2) (b := b.2) hb.ne
  have vg := v_gcdG a.2 b.2 hb.bot
  have hgb : bt (Int.gcd a.2 b.2 : Int) ≤ 9000 := bt_le (natAbs_le_of_dvd ⟨y, by rw [Int.mul_comm]; exact e2⟩ hb.ne) hb.bot
  generalize (Int.gcd a.2 b.2 : Int) = g at *
  have ex : a.2 / g = x := by rw [e1]; exact Int.mul_ediv_cancel _ (by omega)
  have ey : b.2 / g = y := by rw [e2]; exact Int.mul_ediv_cancel _ (by omega)
  have hx : bt x ≤ 9000 := bt_le (natAbs_le_of_dvd ⟨g, e1⟩ ha.ne) ha.bot
  have hy : bt y ≤ 9000 := bt_le (natAbs_le_of_dvd ⟨g, e2⟩ hb.ne) hb.bot
  have vf := v_fracG (a.1 * y + b.1 * x) g (by omega) hgb
  have ok := qmk_ok (t := a.1 * y + b.1 * x) (show g ≠ 0 by omega)
  have hq := (plus_ok ha.low.2 hb.low.2 ha.low.1 hb.low.1 hg e1 e2 hc ok).qm (Int.mul_ne_zero ha.ne hb.ne)
  have c2 := bt_le (ok.bot_le (by omega)) hgb
  refine seq_st [some (dF a), some (dF b), some (.int g), none, none, none] (by walk_at "pu"; rw [vg]; rfl) ?_
  refine seq_st [some (dF a), some (dF b), some (.int g), some (.int x), none, none] (by walk_at "pu"; rw [d_div hg hgb, ex]; rfl) ?_
  refine seq_st [some (dF a), some (dF b), some (.int g), some (.int x), some (.int y), none] (by walk_at "pu"; rw [d_div hg hgb, ey]; rfl) ?_
  refine seq_st [some (dF a), some (dF b), some (.int g), some (.int x), some (.int y), some (dF (qmk (a.1 * y + b.1 * x) g))]
    (set_of (call_of (cons_of (g2_of (g2_of (g2_of rfl rfl (dIx_F0 a)) rfl (d_mul (mulOk ha.top hy))) (g2_of (g2_of rfl rfl (dIx_F0 b)) rfl (d_mul (mulOk hb.top hx))) rfl) (cons_of rfl rfl)) rfl vf)) ?_
  refine ret (dF (qadd a b)) ?_ (.mk rfl rfl)
  unfold qadd
  rw [← hq]
  walk_at "pu"
  rw [d_mul (mulOk hx hy)]
  walk_at "pu"
  rw [d_mul (mulOk (bt_mul hx hy) c2)]
  rfl
theorem sz_neg {m : Nat} {q : Fr2} (h : Sz m q) : Sz m (-q.1, q.2) := ⟨⟨h.low.1, by show Int.gcd (-q.1) q.2 = 1; rw [Int.neg_gcd]; exact h.low.2⟩, bt_neg h.top, h.bot⟩
theorem v_minusG (a b : Fr2) (ha : Sz 9000 a) (hb : Sz 9000 b) : G_minus [dF a, dF b] = some (dF (qadd a (-b.1, b.2))) := by
  rw [E_minus]
  refine of_gets (ret _ (call_of (cons_of rfl (cons_of (tup2_of (x := .int (-b.1)) (y := .int b.2) rfl rfl) rfl)) rfl (v_plusG a (-b.1, b.2) ha (sz_neg hb))) (.mk rfl rfl))
theorem v_overG (a b : Fr2) (ha : Sz 9000 a) (hb : Sz 9000 b) (h0 : b.1 ≠ 0) : G_over [dF a, dF b] = some (dF (qmul a (qmk b.2 b.1))) := by
  rw [E_over]
  refine of_gets (ret _ (call_of (cons_of rfl (cons_of (call_of (cons_of rfl (cons_of rfl rfl)) rfl (v_fracG b.2 b.1 h0 hb.top)) rfl)) rfl (v_timesG a _ ha (sz_mk h0 hb.bot hb.top))) (.mk rfl rfl))
theorem v_powerG (q : Fr2) (k : Nat) (h1 : bt q.1 ≤ 1000) (h2 : bt q.2 ≤ 1000) (hk : k ≤ 1000) : G_power [dF q, .int (k : Nat)] = some (dF (q.1 ^ k, q.2 ^ k)) := by
  rw [E_power]
  refine of_gets ?_
  refine seq_st [some (dF q), some (.int (k : Nat)), some (.int 1), none, none] rfl (seq_st [some (dF q), some (.int (k : Nat)), some (.int 1), some (.int 1), none] rfl ?_)
  refine seq_forR 0 k (fun i δ => ∃ z : Option D, δ = [some (dF q), some (.int (k : Nat)), some (.int (q.1 ^ i)), some (.int (q.2 ^ i)), z]) (range1_of rfl (by omega)) ⟨none, by rw [Int.pow_zero, Int.pow_zero]⟩ ?_ ?_
  · rintro i δ hi ⟨z, rfl⟩
    have hm : ∀ {u : Int}, bt u ≤ 1000 → IntMulOk (u ^ i) u := fun h => mulOk (bt_pow h i) h (by have : 1000 * i ≤ 1000 * 1000 := Nat.mul_le_mul_left _ (by omega); omega)
    refine ⟨_, [some (dF q), some (.int (k : Nat)), some (.int (q.1 ^ (i + 1))), some (.int (q.2 ^ (i + 1))), some (.int (0 + (i : Int)))], rfl, ?_, _, rfl⟩
    exact st_seq [some (dF q), some (.int (k : Nat)), some (.int (q.1 ^ (i + 1))), some (.int (q.2 ^ i)), some (.int (0 + (i : Int)))] (set_of (g2_of rfl (g2_of rfl rfl (dIx_F0 q)) ((d_mul (hm h1)).trans (by rw [Int.pow_succ])))) (set_of (g2_of rfl (g2_of rfl rfl (dIx_F1 q)) ((d_mul (hm h2)).trans (by rw [Int.pow_succ]))))
  · rintro δ' ⟨z, rfl⟩
    exact ret (dF (q.1 ^ k, q.2 ^ k)) rfl (.mk rfl rfl)
theorem v_underG (a b : Fr2) (m1 : IntMulOk a.1 b.2) (m2 : IntMulOk b.1 a.2) : G_under [dF a, dF b] = some (.bool (decide (a.1 * b.2 < b.1 * a.2))) := by
  rw [E_under]
  exact of_gets (ret _ (g2_of (g2_of (g2_of rfl rfl (dIx_F0 a)) (g2_of rfl rfl (dIx_F1 b)) (d_mul m1)) (g2_of (g2_of rfl rfl (dIx_F0 b)) (g2_of rfl rfl (dIx_F1 a)) (d_mul m2)) rfl) (.mk rfl rfl))
end MyLaw
namespace MyLaw
open PySem L2 Q1
theorem dd {a : Int} (b : Int) (h : 0 < b) (h2 : b.natAbs < 2 ^ 70) : dDiv (.int a) (.int b) = some (.int (a / b)) := d_div h (bt_up (bt_of h2) (by decide))
theorem sz_one (m : Nat) (h : 1 ≤ m) : Sz m (1, 1) := ⟨⟨by decide, by decide⟩, bt_up (bt_of (m := 1) (by decide)) h, bt_up (bt_of (m := 1) (by decide)) h⟩
theorem v_often (b g : Nat) (s : Fr2) (hs : Shr s) (h40 : bt s.2 ≤ 40) (hb : b ≤ 60) (hg : g ≤ 60) : G_often [.tuple [.int (b : Nat), .int (g : Nat)], dF s] = some (dF (oft b g s)) := by
  rw [E_often]
  refine of_gets ?_
  have hp := hs.pos
  have hl := hs.les
  have t1 : bt s.1 ≤ 40 := bt_le (by omega) h40
  have t2 : bt (s.2 - s.1) ≤ 40 := bt_le (by omega) h40
  have vp := v_powerG s b (bt_up t1 (by decide)) (bt_up h40 (by decide)) (by omega)
  have vm := v_minusG (1, 1) s (sz_one 9000 (by decide)) ⟨hs.low, bt_up t1 (by decide), bt_up h40 (by decide)⟩
  rw [one_less hs] at vm
  have vq := v_powerG (s.2 - s.1, s.2) g (bt_up t2 (by decide)) (bt_up h40 (by decide)) (by omega)
  have pw : ∀ {u : Int} {k : Nat}, bt u ≤ 40 → k ≤ 60 → bt (u ^ k) ≤ 2401 := fun h hk => bt_up (bt_pow h _) (by omega)
  refine seq_st [some (.tuple [.int (b : Nat), .int (g : Nat)]), some (dF s), some (dF (s.1 ^ b, s.2 ^ b)), none] (set_of (call_of (cons_of rfl (cons_of (g2_of rfl rfl atI0) rfl)) rfl vp)) ?_
  refine seq_st [some (.tuple [.int (b : Nat), .int (g : Nat)]), some (dF s), some (dF (s.1 ^ b, s.2 ^ b)), some (dF ((s.2 - s.1) ^ g, s.2 ^ g))] (set_of (call_of (cons_of (call_of (cons_of rfl (cons_of rfl rfl)) rfl vm) (cons_of (g2_of rfl rfl atI1) rfl)) rfl vq)) ?_
  exact ret (dF (oft b g s)) (tup2_of (g2_of (g2_of rfl rfl (dIx_F0 _)) (g2_of rfl rfl (dIx_F0 _)) (d_mul (mulOk (pw t1 hb) (pw t2 hg)))) (g2_of (g2_of rfl rfl (dIx_F1 _)) (g2_of rfl rfl (dIx_F1 _)) (d_mul (mulOk (pw h40 hb) (pw h40 hg))))) (.mk rfl rfl)
theorem sz_oft (b g : Nat) (s : Fr2) (hs : Shr s) (h40 : bt s.2 ≤ 40) (hb : b ≤ 60) (hg : g ≤ 60) : Sz 4802 (oft b g s) := by
  have hp := hs.pos
  have hl := hs.les
  have t1 : bt s.1 ≤ 40 := bt_le (by omega) h40
  have t2 : bt (s.2 - s.1) ≤ 40 := bt_le (by omega) h40
  have pw : ∀ {u : Int} {k : Nat}, bt u ≤ 40 → k ≤ 60 → bt (u ^ k) ≤ 2401 := fun h hk => bt_up (bt_pow h _) (by omega)
  exact ⟨low_oft hs b g, bt_mul (pw t1 hb) (pw t2 hg), bt_mul (pw h40 hb) (pw h40 hg)⟩
theorem v_check_shares (lo hi : Fr2) (h1 : Shr lo) (h2 : Shr hi) (b1 : bt lo.2 ≤ 40) (b2 : bt hi.2 ≤ 40) (hlt : lo.1 * hi.2 < hi.1 * lo.2) : G_check_shares [dF lo, dF hi] = some .none := by
  rw [E_check_shares]
  have p1 := h1.pos
  have p2 := h2.pos
  have q1 := h1.les
  have q2 := h2.les
  have t1 : bt lo.1 ≤ 40 := bt_le (by omega) b1
  have t2 : bt hi.1 ≤ 40 := bt_le (by omega) b2
  have o0 : bt (0 : Int) ≤ 40 := bt_of (by decide)
  have o1 : bt (1 : Int) ≤ 40 := bt_of (by decide)
  have u1 := v_underG (0, 1) lo (mulOk o0 b1) (mulOk t1 o1)
  have u2 := v_underG lo hi (mulOk t1 b2) (mulOk t2 b1)
  have u3 := v_underG hi (1, 1) (mulOk t2 o1) (mulOk o1 b2)
  rw [decide_eq_true (by omega)] at u1 u3
  rw [decide_eq_true hlt] at u2
  have : g_check_shares [some (dF lo), some (dF hi)] = some (.nx [some (dF lo), some (dF hi)]) :=
    st_no (not_of' (and_of (gTru_of (call_of (cons_of rfl (cons_of rfl rfl)) rfl u1)) (and_of (gTru_of (call_of (cons_of rfl (cons_of rfl rfl)) rfl u2)) (gTru_of (call_of (cons_of rfl (cons_of rfl rfl)) rfl u3)))))
  rw [this]
  rfl
theorem qmk_lt {l h c : Int} (h1 : 0 < l) (h2 : l < h) (h3 : h < c) : (qmk l c).1 * (qmk h c).2 < (qmk h c).1 * (qmk l c).2 := by
  have e1 := (qmk_ok (t := l) (show c ≠ 0 by omega)).eq
  have e2 := (qmk_ok (t := h) (show c ≠ 0 by omega)).eq
  have p1 := (qmk_ok (t := l) (show c ≠ 0 by omega)).pos
  have p2 := (qmk_ok (t := h) (show c ≠ 0 by omega)).pos
  generalize qmk l c = a at *
  generalize qmk h c = b at *
  refine Int.lt_of_mul_lt_mul_right (a := c) ?_ (by omega)
  have k1 : a.1 * b.2 * c = (a.2 * b.2) * l := by
    have : a.1 * b.2 * c = a.1 * c * b.2 := by grind
    rw [this, e1]; grind
  have k2 : b.1 * a.2 * c = (a.2 * b.2) * h := by
    have : b.1 * a.2 * c = b.1 * c * a.2 := by grind
    rw [this, e2]; grind
  rw [k1, k2]
  exact Int.mul_lt_mul_of_pos_left h2 (Int.mul_pos (by omega) (by omega))
structure Sh3 (l h c : Int) : Prop where
  p1 : 0 < l
  p2 : l < h
  p3 : h < c
  p4 : c < 2 ^ 40
theorem v_ratio {l h c : Int} (H : Sh3 l h c) (b g : Nat) (hb : b ≤ 60) (hg : g ≤ 60) : G_ratio [.tuple [.int (b : Nat), .int (g : Nat)], dF (qmk l c), dF (qmk h c)] = some (dF (rat b g (qmk l c) (qmk h c))) ∧ Sz 9604 (rat b g (qmk l c) (qmk h c)) := by
  have ⟨a1, a2, a3, a4⟩ := H
  have s1 := shr_mk a1 (show l < c by omega)
  have s2 := shr_mk (show 0 < h by omega) a3
  have bc : bt c ≤ 40 := bt_of (by omega)
  have b1 : bt (qmk l c).2 ≤ 40 := bt_le ((qmk_ok (t := l) (show c ≠ 0 by omega)).bot_le (by omega)) bc
  have b2 : bt (qmk h c).2 ≤ 40 := bt_le ((qmk_ok (t := h) (show c ≠ 0 by omega)).bot_le (by omega)) bc
  have z1 := sz_oft b g _ s1 b1 hb hg
  have z2 := sz_oft b g _ s2 b2 hb hg
  have p1 := oft_pos s1 b g
  have vo := v_overG (oft b g (qmk h c)) (oft b g (qmk l c)) (z2.up (by decide)) (z1.up (by decide)) (by omega)
  have lw : Low ((oft b g (qmk l c)).2, (oft b g (qmk l c)).1) := ⟨by show 1 ≤ (oft b g (qmk l c)).1; omega, by show Int.gcd _ _ = 1; rw [Int.gcd_comm]; exact z1.low.2⟩
  have e : qmk (oft b g (qmk l c)).2 (oft b g (qmk l c)).1 = ((oft b g (qmk l c)).2, (oft b g (qmk l c)).1) := low_self lw
  rw [e] at vo
  refine ⟨?_, sz_mul z2 ⟨lw, z1.bot, z1.top⟩⟩
  rw [E_ratio]
  refine of_gets ?_
  refine seq_st [some (.tuple [.int (b : Nat), .int (g : Nat)]), some (dF (qmk l c)), some (dF (qmk h c))] ?_ (ret _ (call_of (cons_of (call_of (cons_of rfl (cons_of rfl rfl)) rfl (v_often b g _ s2 b2 hb hg)) (cons_of (call_of (cons_of rfl (cons_of rfl rfl)) rfl (v_often b g _ s1 b1 hb hg)) rfl)) rfl vo) (.mk rfl rfl))
  exact drop_of (call_of (cons_of rfl (cons_of rfl rfl)) rfl (v_check_shares _ _ s1 s2 b1 b2 (qmk_lt a1 a2 a3)))
theorem v_law_shares (n : Int) : ∃ l h c : Int, G_law_shares [.int n] = some (.tuple [.int l, .int h, .int c]) ∧ Sh3 l h c := by
  suffices key : Gets (G_law_shares [.int n]) fun d => ∃ l h c : Int, d = .tuple [.int l, .int h, .int c] ∧ Sh3 l h c by
    obtain ⟨_, e, l, h, c, rfl, H⟩ := key
    exact ⟨l, h, c, e, H⟩
  rw [E_law_shares]
  have p12 : dPow (.int 10) (.int 12) = some (.int (10 ^ 12)) := d_pow (k := 12) (by decide) (by decide)
  refine seq_st [some (.int n), some (.int (3 + n / 2 % 12)), none, none, none] (set_of (g2_of rfl (g2_of (g2_of rfl rfl (dd 2 (by decide) (by decide))) rfl (d_mod (by decide))) rfl)) ?_
  refine seq_st [some (.int n), some (.int (3 + n / 2 % 12)), some (.int (n / 24)), none, none] (set_of (g2_of rfl rfl (dd 24 (by decide) (by decide)))) ?_
  have hc : gB (g2 dEq (g2 dMod (gVar 0) (gC (.int (2)))) (gC (.int (1)))) [some (.int n), some (.int (3 + n / 2 % 12)), some (.int (n / 24)), none, none] = some (decide (n % 2 = 1)) := gB_of (g2_of (g2_of rfl rfl (d_mod (by decide))) rfl rfl)
  have rest : ∀ (c r : Int), 3 ≤ c → c < 2 ^ 40 → Gets (((gSeq (gSet 3 (g2 dAdd (gC (.int (1))) (g2 dMod (gVar 2) (g2 dSub (gVar 1) (gC (.int (2)))))))
    (gSeq (gSet 4 (g2 dAdd (g2 dAdd (gVar 3) (gC (.int (1)))) (g2 dMod (g2 dDiv (gVar 2) (g2 dSub (gVar 1) (gC (.int (2))))) (g2 dSub (g2 dSub (gVar 1) (gC (.int (1)))) (gVar 3)))))
    (gRet (gTupD (gConsA (gVar 3) (gConsA (gVar 4) (gConsA (gVar 1) gNilA))))))) [some (.int n), some (.int c), some (.int r), none, none]).bind gOut) fun d => ∃ l h c : Int, d = .tuple [.int l, .int h, .int c] ∧ Sh3 l h c := by
    intro c r h3 h40
    have m0 := Int.emod_nonneg r (show c - 2 ≠ 0 by omega)
    have m1 := Int.emod_lt_of_pos r (show 0 < c - 2 by omega)
    obtain ⟨x, hx⟩ : ∃ x, x = r % (c - 2) := ⟨_, rfl⟩
    rw [← hx] at m0 m1
    have m2 := Int.emod_nonneg (r / (c - 2)) (show c - 1 - (1 + x) ≠ 0 by omega)
    have m3 := Int.emod_lt_of_pos (r / (c - 2)) (show 0 < c - 1 - (1 + x) by omega)
    refine seq_st [some (.int n), some (.int c), some (.int r), some (.int (1 + x)), none] (set_of (g2_of rfl (g2_of rfl (g2_of rfl rfl rfl) (d_mod (by omega))) (by rw [hx]; rfl))) ?_
    refine seq_st [some (.int n), some (.int c), some (.int r), some (.int (1 + x)), some (.int (1 + x + 1 + r / (c - 2) % (c - 1 - (1 + x))))] (set_of (g2_of (g2_of rfl rfl rfl) (g2_of (g2_of rfl (g2_of rfl rfl rfl) (dd (c - 2) (by omega) (by omega))) (g2_of (g2_of rfl rfl rfl) rfl rfl) (d_mod (by omega))) rfl)) ?_
    exact ret _ (tup3_of rfl rfl rfl) (.mk rfl ⟨_, _, _, rfl, by omega, by omega, by omega, h40⟩)
  refine seq_iff (decide (n % 2 = 1)) hc (fun _ => ?_) (fun _ => ?_)
  · refine (show ∀ {x y : Option D}, x = y → Gets y _ → Gets x _ from fun e h => e ▸ h) (congrArg (fun z : Option Res => z.bind gOut) seq_assoc) ?_
    refine seq_st [some (.int n), some (.int (3 + n / 2 % 10 ^ 12)), some (.int (n / 24)), none, none] (set_of (g2_of rfl (g2_of (g2_of rfl rfl (dd 2 (by decide) (by decide))) p12 (d_mod (by decide))) rfl)) ?_
    refine seq_st [some (.int n), some (.int (3 + n / 2 % 10 ^ 12)), some (.int (n / 2 / 10 ^ 12 + n / 7)), none, none] (set_of (g2_of (g2_of (g2_of rfl rfl (dd 2 (by decide) (by decide))) p12 (dd (10 ^ 12) (by decide) (by decide))) (g2_of rfl rfl (dd 7 (by decide) (by decide))) rfl)) ?_
    exact rest _ _ (by omega) (by omega)
  · refine (show ∀ {x y : Option D}, x = y → Gets y _ → Gets x _ from fun e h => e ▸ h) (congrArg (fun z : Option Res => z.bind gOut) seq_skip) ?_
    exact rest _ _ (by omega) (by omega)
theorem v_law_times (u : Int) (k : Nat) (hu : bt u ≤ 1000) (hk : k ≤ 1000) : G_law_times [.int u, .int (k : Nat)] = some (.int (u ^ k)) := by
  rw [E_law_times]
  refine of_gets ?_
  refine seq_st [some (.int u), some (.int (k : Nat)), some (.int 1), none] rfl ?_
  refine seq_forR 0 k (fun i δ => ∃ z : Option D, δ = [some (.int u), some (.int (k : Nat)), some (.int (u ^ i)), z]) (range1_of rfl (by omega)) ⟨none, by rw [Int.pow_zero]⟩ ?_ ?_
  · rintro i δ hi ⟨z, rfl⟩
    have hm : IntMulOk (u ^ i) u := mulOk (bt_pow hu i) hu (by have : 1000 * i ≤ 1000 * 1000 := Nat.mul_le_mul_left _ (by omega); omega)
    exact ⟨_, [some (.int u), some (.int (k : Nat)), some (.int (u ^ (i + 1))), some (.int (0 + (i : Int)))], rfl, set_of (g2_of rfl rfl ((d_mul hm).trans (by rw [Int.pow_succ]))), _, rfl⟩
  · rintro δ' ⟨z, rfl⟩
    exact ret (.int (u ^ k)) rfl (.mk rfl rfl)
theorem v_law_weight (b g : Nat) (t c : Int) (h1 : 0 < t) (h2 : t < c) (h3 : c < 2 ^ 40) (hb : b ≤ 60) (hg : g ≤ 60) : G_law_weight [.tuple [.int (b : Nat), .int (g : Nat)], .int t, .int c] = some (.int (t ^ b * (c - t) ^ g)) ∧ bt (t ^ b * (c - t) ^ g) ≤ 4802 ∧ 0 < t ^ b * (c - t) ^ g := by
  have t1 : bt t ≤ 40 := bt_of (by omega)
  have t2 : bt (c - t) ≤ 40 := bt_of (by omega)
  have pw : ∀ {u : Int} {k : Nat}, bt u ≤ 40 → k ≤ 60 → bt (u ^ k) ≤ 2401 := fun h hk => bt_up (bt_pow h _) (by omega)
  refine ⟨?_, bt_mul (pw t1 hb) (pw t2 hg), Int.mul_pos (Int.pow_pos h1) (Int.pow_pos (by omega))⟩
  rw [E_law_weight]
  exact of_gets (ret _ (g2_of (call_of (cons_of rfl (cons_of (g2_of rfl rfl atI0) rfl)) rfl (v_law_times t b (bt_up t1 (by decide)) (by omega))) (call_of (cons_of (g2_of rfl rfl rfl) (cons_of (g2_of rfl rfl atI1) rfl)) rfl (v_law_times (c - t) g (bt_up t2 (by decide)) (by omega))) (d_mul (mulOk (pw t1 hb) (pw t2 hg)))) (.mk rfl rfl))
theorem v_law_under (a b : Fr2) (h : a.1 * b.2 < b.1 * a.2) (m1 : IntMulOk a.1 b.2) (m2 : IntMulOk b.1 a.2) : G_law_under [dF a, dF b] = some (.bool true) := by
  rw [E_law_under]
  exact of_gets (ret _ (g2_of (g2_of (g2_of rfl rfl (dIx_F0 a)) (g2_of rfl rfl (dIx_F1 b)) (d_mul m1)) (g2_of (g2_of rfl rfl (dIx_F0 b)) (g2_of rfl rfl (dIx_F1 a)) (d_mul m2)) (by show some (PyData.bool (decide (a.1 * b.2 < b.1 * a.2))) = _; rw [decide_eq_true h])) (.mk rfl rfl))
theorem v_law_asked {l h c : Int} (H : Sh3 l h c) (b g : Nat) (hb : b < 60) (hg : g < 60) : G_law_asked [.tuple [.int l, .int h, .int c], .int (b : Nat), .int (g : Nat)] = some (.bool true) := by
  rw [E_law_asked]
  refine of_gets ?_
  have ⟨a1, a2, a3, a4⟩ := H
  have bc : bt c ≤ 9000 := bt_up (bt_of (m := 40) (by omega)) (by decide)
  have ml := v_law_made l c (by omega) bc
  have mh := v_law_made h c (by omega) bc
  obtain ⟨r0, z0⟩ := v_ratio H b g (by omega) (by omega)
  obtain ⟨r1, z1⟩ := v_ratio H (b + 1) g (by omega) (by omega)
  obtain ⟨r2, z2⟩ := v_ratio H b (g + 1) (by omega) (by omega)
  obtain ⟨w1, bw1, pw1⟩ := v_law_weight b g h c (by omega) a3 a4 (by omega) (by omega)
  obtain ⟨w2, bw2, pw2⟩ := v_law_weight b g l c a1 (by omega) a4 (by omega) (by omega)
  have q0 := rat_ok a1 (show l < c by omega) (show 0 < h by omega) a3 b g
  have q1 := rat_ok a1 (show l < c by omega) (show 0 < h by omega) a3 (b + 1) g
  have q2 := rat_ok a1 (show l < c by omega) (show 0 < h by omega) a3 b (g + 1)
  have k1 := rat_less (l := l) (h := h) q0 (by
    have e1 : h ^ (b + 1) * (c - h) ^ g = h ^ b * (c - h) ^ g * h := by rw [Int.pow_succ]; grind
    have e2 : l ^ (b + 1) * (c - l) ^ g = l ^ b * (c - l) ^ g * l := by rw [Int.pow_succ]; grind
    rw [e1, e2] at q1; exact q1) pw1 pw2 a1 a2
  have k2 := rat_less (l := c - h) (h := c - l) q2 (by
    refine ⟨q0.pos, q0.cop, ?_⟩
    have e1 : h ^ b * (c - h) ^ (g + 1) = h ^ b * (c - h) ^ g * (c - h) := by rw [Int.pow_succ]; grind
    have e2 : l ^ b * (c - l) ^ (g + 1) = l ^ b * (c - l) ^ g * (c - l) := by rw [Int.pow_succ]; grind
    have e := q0.eq
    rw [e1, e2]
    generalize h ^ b * (c - h) ^ g = T at *
    generalize l ^ b * (c - l) ^ g = B at *
    generalize rat b g (qmk l c) (qmk h c) = f at *
    have : f.1 * (B * (c - l) * (c - h)) = f.1 * B * ((c - l) * (c - h)) := by grind
    rw [this, e]; grind) (by rw [Int.pow_succ, ← Int.mul_assoc]; exact Int.mul_pos pw1 (by omega)) (by rw [Int.pow_succ, ← Int.mul_assoc]; exact Int.mul_pos pw2 (by omega)) (by omega) (by omega)
  generalize rat b g (qmk l c) (qmk h c) = f0 at *
  generalize rat (b + 1) g (qmk l c) (qmk h c) = f1 at *
  generalize rat b (g + 1) (qmk l c) (qmk h c) = f2 at *
  have vf := v_law_is_frac (n := f0.1) (d := f0.2) q0 (mulOk z0.top bw2) (mulOk bw1 z0.bot)
  have u1 := v_law_under f0 f1 k1 (mulOk z0.top z1.bot) (mulOk z1.top z0.bot)
  have u2 := v_law_under f2 f0 k2 (mulOk z2.top z0.bot) (mulOk z0.top z2.bot)
  generalize h ^ b * (c - h) ^ g = T at *
  generalize l ^ b * (c - l) ^ g = B at *
  obtain ⟨x, hx⟩ : ∃ x : D, x = .tuple [.int l, .int h, .int c] := ⟨_, rfl⟩
  have i0 : ∀ (δ : DS), g2 dIx (gVar 0) (gC (.int (0))) (some x :: δ) = some (.int l) := fun δ => g2_of rfl rfl (by rw [hx]; exact atI0)
  have i1 : ∀ (δ : DS), g2 dIx (gVar 0) (gC (.int (1))) (some x :: δ) = some (.int h) := fun δ => g2_of rfl rfl (by rw [hx]; exact atI1)
  have i2 : ∀ (δ : DS), g2 dIx (gVar 0) (gC (.int (2))) (some x :: δ) = some (.int c) := fun δ => g2_of rfl rfl (by rw [hx]; exact atI2')
  rw [← hx]
  refine seq_st [some x, some (.int (b : Nat)), some (.int (g : Nat)), some (dF (qmk l c)), none, none, none, none] (set_of (call_of (cons_of (i0 _) (cons_of (i2 _) rfl)) rfl ml)) ?_
  refine seq_st [some x, some (.int (b : Nat)), some (.int (g : Nat)), some (dF (qmk l c)), some (dF (qmk h c)), none, none, none] (set_of (call_of (cons_of (i1 _) (cons_of (i2 _) rfl)) rfl mh)) ?_
  refine seq_st [some x, some (.int (b : Nat)), some (.int (g : Nat)), some (dF (qmk l c)), some (dF (qmk h c)), some (dF f0), none, none] (set_of (call_of (cons_of (tup2_of rfl rfl) (cons_of rfl (cons_of rfl rfl))) rfl r0)) ?_
  refine seq_st [some x, some (.int (b : Nat)), some (.int (g : Nat)), some (dF (qmk l c)), some (dF (qmk h c)), some (dF f0), some (.int T), none] (set_of (call_of (cons_of (tup2_of rfl rfl) (cons_of (i1 _) (cons_of (i2 _) rfl))) rfl w1)) ?_
  refine seq_st [some x, some (.int (b : Nat)), some (.int (g : Nat)), some (dF (qmk l c)), some (dF (qmk h c)), some (dF f0), some (.int T), some (.int B)] (set_of (call_of (cons_of (tup2_of rfl rfl) (cons_of (i0 _) (cons_of (i2 _) rfl))) rfl w2)) ?_
  refine seq_no (not_of' (gTru_of (call_of (cons_of rfl (cons_of rfl (cons_of rfl rfl))) rfl vf))) ?_
  have e1 : (PyData.int ((b : Nat) + 1 : Int)) = .int ((b + 1 : Nat) : Int) := by congr 1
  have e2 : (PyData.int ((g : Nat) + 1 : Int)) = .int ((g + 1 : Nat) : Int) := by congr 1
  refine ret (.bool true) (andV_of (call_of (cons_of rfl (cons_of (call_of (cons_of (tup2_of (g2_of rfl rfl rfl) rfl) (cons_of rfl (cons_of rfl rfl))) rfl ?_) rfl)) rfl u1) (call_of (cons_of (call_of (cons_of (tup2_of rfl (g2_of rfl rfl rfl)) (cons_of rfl (cons_of rfl rfl))) rfl ?_) (cons_of rfl rfl)) rfl u2)) (.mk rfl rfl)
  · rw [e1]; exact r1
  · rw [e2]; exact r2
theorem law_true (ns : List Int) (h : ns.length ≤ 63) : G_law [.list (ns.map .int)] = some (.bool true) := by
  rw [E_law]
  refine of_gets ?_
  obtain ⟨k, hk⟩ : ∃ k : Nat, k = max 1 (min 20 ns.length) := ⟨_, rfl⟩
  have hr : gRange1 (gConsA (gB1 dMax2 (gConsA (gC (.int (1))) (gConsA (gB1 dMin2 (gConsA (gC (.int (20))) (gConsA (gB1 dLen (gConsA (gVar 0) gNilA)) gNilA))) gNilA))) gNilA) [some (.list (ns.map .int)), none, none, none] = some (rangeD 0 k) := by
    refine range1_of ?_ (by omega)
    walk_at "pu"
    rw [List.length_map]
    congr 3
    split <;> split <;> omega
  refine seq_forR 0 k (fun i δ => ∃ x y z, δ = [some (.list (ns.map .int)), x, y, z]) hr ⟨none, none, none, rfl⟩ ?_ ?_
  · rintro i δ hi ⟨x, y, z, rfl⟩
    rw [Int.zero_add]
    obtain ⟨c, hc⟩ : ∃ c, c = ns.getD (i + 1) 0 := ⟨_, rfl⟩
    have vc := v_law_cell ns (i + 1)
    rw [← hc] at vc
    obtain ⟨l, h', c', es, H⟩ := v_law_shares (ns.getD i 0)
    suffices key : ∃ s : Int, ∃ x3 : Int, 1 ≤ s ∧ s ≤ 60 ∧ gSeq (gIf (gB (g2 dEq (g2 dMod (gVar 2) (gC (.int (4)))) (gC (.int (1))))) (gSet 3 (gC (.int (31)))) gSkip)
        (gIf (gAnd (gB (g2 dEq (gVar 1) (gC (.int (0))))) (gB (g2 dEq (g2 dMod (gVar 2) (gC (.int (8)))) (gC (.int (5)))))) (gSet 3 (gC (.int (60)))) gSkip) [some (.list (ns.map .int)), some (.int (i : Nat)), some (.int c), some (.int 13)] = some (.nx [some (.list (ns.map .int)), some (.int (i : Nat)), some (.int c), some (.int s)]) ∧ x3 = s by
      obtain ⟨s, _, s1, s2, es2, _⟩ := key
      have m0 := Int.emod_nonneg (c / 4) (show s ≠ 0 by omega)
      have m1 := Int.emod_lt_of_pos (c / 4) (show 0 < s by omega)
      have m2 := Int.emod_nonneg (c / 4 / s) (show s ≠ 0 by omega)
      have m3 := Int.emod_lt_of_pos (c / 4 / s) (show 0 < s by omega)
      have va := v_law_asked H (c / 4 % s).toNat (c / 4 / s % s).toNat (by omega) (by omega)
      rw [Int.toNat_of_nonneg m0, Int.toNat_of_nonneg m2] at va
      refine ⟨_, [some (.list (ns.map .int)), some (.int (i : Nat)), some (.int c), some (.int s)], rfl, ?_, _, _, _, rfl⟩
      refine st_seq [some (.list (ns.map .int)), some (.int (i : Nat)), some (.int c), z] (set_of (call_of (cons_of rfl (cons_of (g2_of rfl rfl rfl) rfl)) rfl vc)) (st_seq [some (.list (ns.map .int)), some (.int (i : Nat)), some (.int c), some (.int 13)] rfl ?_)
      have hend : gIf (gNot (gTru (gCall G_law_asked 3 (gConsA (gCall G_law_shares 1 (gConsA (gCall G_law_cell 2 (gConsA (gVar 0) (gConsA (gVar 1) gNilA))) gNilA)) (gConsA (g2 dMod (g2 dDiv (gVar 2) (gC (.int (4)))) (gVar 3)) (gConsA (g2 dMod (g2 dDiv (g2 dDiv (gVar 2) (gC (.int (4)))) (gVar 3)) (gVar 3)) gNilA)))))) (gRet (gC (.bool false))) gSkip [some (.list (ns.map .int)), some (.int (i : Nat)), some (.int c), some (.int s)] = some (.nx [some (.list (ns.map .int)), some (.int (i : Nat)), some (.int c), some (.int s)]) :=
        st_no (not_of' (gTru_of (call_of (cons_of (call_of (cons_of (call_of (cons_of rfl (cons_of rfl rfl)) rfl (v_law_cell ns i)) rfl) rfl es) (cons_of (g2_of (g2_of rfl rfl (dd 4 (by decide) (by decide))) rfl (d_mod (by omega))) (cons_of (g2_of (g2_of (g2_of rfl rfl (dd 4 (by decide) (by decide))) rfl (dd s (by omega) (by omega))) rfl (d_mod (by omega))) rfl))) rfl va)))
      exact (seq_assoc.symm.trans (st_seq _ es2 hend))
    have c1 : ∀ t : Int, gB (g2 dEq (g2 dMod (gVar 2) (gC (.int (4)))) (gC (.int (1)))) [some (.list (ns.map .int)), some (.int (i : Nat)), some (.int c), some (.int t)] = some (decide (c % 4 = 1)) := fun t => gB_of (g2_of (g2_of rfl rfl (d_mod (by decide))) rfl rfl)
    have c2 : ∀ t : Int, ∃ b, gAnd (gB (g2 dEq (gVar 1) (gC (.int (0))))) (gB (g2 dEq (g2 dMod (gVar 2) (gC (.int (8)))) (gC (.int (5))))) [some (.list (ns.map .int)), some (.int (i : Nat)), some (.int c), some (.int t)] = some b := by
      intro t
      by_cases h0 : ((i : Nat) : Int) = 0
      · exact ⟨decide (c % 8 = 5), and_of (gB_of (g2_of rfl rfl (by show some (PyData.bool (decide (((i : Nat) : Int) = 0))) = _; rw [decide_eq_true h0]))) (gB_of (g2_of (g2_of rfl rfl (d_mod (by decide))) rfl rfl))⟩
      · refine ⟨false, ?_⟩
        unfold gAnd
        rw [gB_of (b := false) (g2_of rfl rfl (by show some (PyData.bool (decide (((i : Nat) : Int) = 0))) = _; rw [decide_eq_false h0]))]
        rfl
    have st2 : ∀ t : Int, 1 ≤ t → t ≤ 60 → ∃ s : Int, 1 ≤ s ∧ s ≤ 60 ∧ gIf (gAnd (gB (g2 dEq (gVar 1) (gC (.int (0))))) (gB (g2 dEq (g2 dMod (gVar 2) (gC (.int (8)))) (gC (.int (5)))))) (gSet 3 (gC (.int (60)))) gSkip [some (.list (ns.map .int)), some (.int (i : Nat)), some (.int c), some (.int t)] = some (.nx [some (.list (ns.map .int)), some (.int (i : Nat)), some (.int c), some (.int s)]) := by
      intro t t1 t2
      obtain ⟨b, hb⟩ := c2 t
      cases b with
      | true => exact ⟨60, by decide, by decide, by unfold gIf; rw [hb]; rfl⟩
      | false => exact ⟨t, t1, t2, st_no hb⟩
    by_cases h4 : c % 4 = 1
    · obtain ⟨s, s1, s2, e⟩ := st2 31 (by decide) (by decide)
      exact ⟨s, s, s1, s2, st_seq [some (.list (ns.map .int)), some (.int (i : Nat)), some (.int c), some (.int 31)] (by unfold gIf; rw [c1, decide_eq_true h4]; rfl) e, rfl⟩
    · obtain ⟨s, s1, s2, e⟩ := st2 13 (by decide) (by decide)
      exact ⟨s, s, s1, s2, st_seq [some (.list (ns.map .int)), some (.int (i : Nat)), some (.int c), some (.int 13)] (st_no (by rw [c1, decide_eq_false h4])) e, rfl⟩
  · rintro δ' ⟨x, y, z, rfl⟩
    exact ret (.bool true) rfl (.mk rfl rfl)
end MyLaw
namespace MyLaw
open PySem L2 Q1
def top (i : Nat) : Stmt := PySem.Challenge.pw_lotdraw_k46_ratios.main.body.getD i (.Pass ⟨0, 0, 0, 0⟩)
abbrev s_frac : Stmt := top 8
theorem sc_frac : FnScope ["top", "bottom", "shared"] ["top", "bottom"] (defScope s_frac) := ⟨rfl, rfl, rfl, by decide +kernel, rfl, by decide +kernel, by decide +kernel⟩
abbrev s_plus : Stmt := top 9
theorem sc_plus : FnScope ["one", "other", "shared", "one_part", "other_part", "rest"] ["one", "other"] (defScope s_plus) := ⟨rfl, rfl, rfl, by decide +kernel, rfl, by decide +kernel, by decide +kernel⟩
abbrev s_minus : Stmt := top 10
theorem sc_minus : FnScope ["one", "other"] ["one", "other"] (defScope s_minus) := ⟨rfl, rfl, rfl, by decide +kernel, rfl, by decide +kernel, by decide +kernel⟩
abbrev s_times : Stmt := top 11
theorem sc_times : FnScope ["one", "other", "left", "right"] ["one", "other"] (defScope s_times) := ⟨rfl, rfl, rfl, by decide +kernel, rfl, by decide +kernel, by decide +kernel⟩
abbrev s_over : Stmt := top 12
theorem sc_over : FnScope ["one", "other"] ["one", "other"] (defScope s_over) := ⟨rfl, rfl, rfl, by decide +kernel, rfl, by decide +kernel, by decide +kernel⟩
abbrev s_power : Stmt := top 13
theorem sc_power : FnScope ["one", "many", "top", "bottom", "turn"] ["one", "many"] (defScope s_power) := ⟨rfl, rfl, rfl, by decide +kernel, rfl, by decide +kernel, by decide +kernel⟩
abbrev s_under : Stmt := top 14
theorem sc_under : FnScope ["one", "other"] ["one", "other"] (defScope s_under) := ⟨rfl, rfl, rfl, by decide +kernel, rfl, by decide +kernel, by decide +kernel⟩
abbrev s_greatest_divisor : Stmt := top 15
theorem sc_greatest_divisor : FnScope ["one", "other", "rest", "pair"] ["one", "other"] (defScope s_greatest_divisor) := ⟨rfl, rfl, rfl, by decide +kernel, rfl, by decide +kernel, by decide +kernel⟩
abbrev s_leap : Stmt := top 16
theorem sc_leap : FnScope ["one", "other", "cut", "upper", "lower", "many", "rest"] ["one", "other"] (defScope s_leap) := ⟨rfl, rfl, rfl, by decide +kernel, rfl, by decide +kernel, by decide +kernel⟩
abbrev s_ratio : Stmt := top 20
theorem sc_ratio : FnScope ["count", "low", "high"] ["count", "low", "high"] (defScope s_ratio) := ⟨rfl, rfl, rfl, by decide +kernel, rfl, by decide +kernel, by decide +kernel⟩
abbrev s_check_shares : Stmt := top 21
theorem sc_check_shares : FnScope ["low", "high"] ["low", "high"] (defScope s_check_shares) := ⟨rfl, rfl, rfl, by decide +kernel, rfl, by decide +kernel, by decide +kernel⟩
abbrev s_often : Stmt := top 22
theorem sc_often : FnScope ["count", "share", "bad_part", "good_part"] ["count", "share"] (defScope s_often) := ⟨rfl, rfl, rfl, by decide +kernel, rfl, by decide +kernel, by decide +kernel⟩
abbrev s_law_cell : Stmt := top 24
theorem sc_law_cell : FnScope ["_law_script", "_law_k"] ["_law_script", "_law_k"] (defScope s_law_cell) := ⟨rfl, rfl, rfl, by decide +kernel, rfl, by decide +kernel, by decide +kernel⟩
abbrev s_law_whole : Stmt := top 25
theorem sc_law_whole : FnScope ["_law_found"] ["_law_found"] (defScope s_law_whole) := ⟨rfl, rfl, rfl, by decide +kernel, rfl, by decide +kernel, by decide +kernel⟩
abbrev s_law_divisor : Stmt := top 26
theorem sc_law_divisor : FnScope ["_law_one", "_law_other"] ["_law_one", "_law_other"] (defScope s_law_divisor) := ⟨rfl, rfl, rfl, by decide +kernel, rfl, by decide +kernel, by decide +kernel⟩
abbrev s_law_is_frac : Stmt := top 27
theorem sc_law_is_frac : FnScope ["_law_found", "_law_top", "_law_bottom"] ["_law_found", "_law_top", "_law_bottom"] (defScope s_law_is_frac) := ⟨rfl, rfl, rfl, by decide +kernel, rfl, by decide +kernel, by decide +kernel⟩
abbrev s_law_shares : Stmt := top 28
theorem sc_law_shares : FnScope ["_law_cell_here", "_law_bottom", "_law_rest", "_law_low", "_law_high"] ["_law_cell_here"] (defScope s_law_shares) := ⟨rfl, rfl, rfl, by decide +kernel, rfl, by decide +kernel, by decide +kernel⟩
abbrev s_law_made : Stmt := top 29
theorem sc_law_made : FnScope ["_law_top", "_law_bottom", "_law_common"] ["_law_top", "_law_bottom"] (defScope s_law_made) := ⟨rfl, rfl, rfl, by decide +kernel, rfl, by decide +kernel, by decide +kernel⟩
abbrev s_law_times : Stmt := top 30
theorem sc_law_times : FnScope ["_law_base", "_law_many", "_law_made_here", "_law_k"] ["_law_base", "_law_many"] (defScope s_law_times) := ⟨rfl, rfl, rfl, by decide +kernel, rfl, by decide +kernel, by decide +kernel⟩
abbrev s_law_weight : Stmt := top 31
theorem sc_law_weight : FnScope ["_law_count", "_law_top", "_law_bottom"] ["_law_count", "_law_top", "_law_bottom"] (defScope s_law_weight) := ⟨rfl, rfl, rfl, by decide +kernel, rfl, by decide +kernel, by decide +kernel⟩
abbrev s_law_under : Stmt := top 32
theorem sc_law_under : FnScope ["_law_one", "_law_other"] ["_law_one", "_law_other"] (defScope s_law_under) := ⟨rfl, rfl, rfl, by decide +kernel, rfl, by decide +kernel, by decide +kernel⟩
abbrev s_law_asked : Stmt := top 33
theorem sc_law_asked : FnScope ["_law_both", "_law_bad", "_law_good", "_law_low", "_law_high", "_law_found", "_law_top", "_law_bottom"] ["_law_both", "_law_bad", "_law_good"] (defScope s_law_asked) := ⟨rfl, rfl, rfl, by decide +kernel, rfl, by decide +kernel, by decide +kernel⟩
abbrev s_law : Stmt := top 34
theorem sc_law : FnScope ["_law_script", "_law_k", "_law_cell_here", "_law_size"] ["_law_script"] (defScope s_law) := ⟨rfl, rfl, rfl, by decide +kernel, rfl, by decide +kernel, by decide +kernel⟩
section
variable {P : Program} {w : World} {K : PySem.W.Frag} {mg : Str → Option Value} {base : Heap}
theorem ok_leap (F : Df K mg "leap" s_leap ["one", "other"]) (B : Bs mg) (C_WINDOW : Cn mg "WINDOW" (.int (240))) (C_SHED : Cn mg "SHED" (.int (120))) : Dn P w K mg base 1 "leap" ["one", "other"] (spD K 2 G_leap) :=
  pd_def [] g_leap F sc_leap fun f cdv A outer s H E hr => (pd_seq (pd_set (ps_set (i := 2) sc_leap.nd rfl (Or.inl rfl) (pd_op op_sub imp_I (PE.sh (pd_bits (pd_own (pv 0)))) (PE.sh (pd_int (pe_cn C_WINDOW))))))
    (pd_seq (pd_set (ps_set (i := 3) sc_leap.nd rfl (Or.inl rfl) (pd_tup (pd_acons (pd_op op_shr imp_Ic (pd_own (pv 0)) (pd_own (pv 2))) (pd_acons (pd_int pe_int) (pd_acons (pd_int pe_int) pd_anil))))))
    (pd_seq (pd_set (ps_set (i := 4) sc_leap.nd rfl (Or.inl rfl) (pd_tup (pd_acons (pd_op op_shr imp_Ic (pd_own (pv 1)) (pd_own (pv 2))) (pd_acons (pd_int pe_int) (pd_acons (pd_int pe_int) pd_anil))))))
    (pd_seq (pd_while PassesOwn.never (pd_tcmp (op_neH hr) imp_ne (PE.sh (pd_op op_shr imp_Ic (PE.sh (pd_ix (pd_own (pv 4)) (PE.sh (pd_int pe_int)))) (PE.sh (pd_int (pe_cn C_SHED))))) (PE.sh (pd_int pe_int)) (nomark _)) (pd_seq (pd_set (ps_set (i := 5) sc_leap.nd rfl (Or.inl rfl) (pd_op op_fdivS imp_Ic (PE.sh (pd_ix (pd_own (pv 3)) (PE.sh (pd_int pe_int)))) (PE.sh (pd_ix (pd_own (pv 4)) (PE.sh (pd_int pe_int)))))))
    (pd_seq (pd_set (ps_set (i := 6) sc_leap.nd rfl (Or.inl rfl) (pd_tup (pd_acons (pd_op op_sub imp_I (PE.sh (pd_ix (pd_own (pv 3)) (PE.sh (pd_int pe_int)))) (PE.sh (pd_op op_mulB imp_Ic (pd_own (pv 5)) (PE.sh (pd_ix (pd_own (pv 4)) (PE.sh (pd_int pe_int))))))) (pd_acons (pd_op op_sub imp_I (PE.sh (pd_ix (pd_own (pv 3)) (PE.sh (pd_int pe_int)))) (PE.sh (pd_op op_mulB imp_Ic (pd_own (pv 5)) (PE.sh (pd_ix (pd_own (pv 4)) (PE.sh (pd_int pe_int))))))) (pd_acons (pd_op op_sub imp_I (PE.sh (pd_ix (pd_own (pv 3)) (PE.sh (pd_int pe_int)))) (PE.sh (pd_op op_mulB imp_Ic (pd_own (pv 5)) (PE.sh (pd_ix (pd_own (pv 4)) (PE.sh (pd_int pe_int))))))) pd_anil))))))
    (pd_seq (pd_set (ps_set (i := 3) sc_leap.nd rfl (Or.inl rfl) (pd_var (pv 4))))
    (pd_one (pd_set (ps_set (i := 4) sc_leap.nd rfl (Or.inl rfl) (pd_var (pv 6)))))))))
    (pd_one (pd_ret (pd_tup (pd_acons (pd_callB call_abs imp_abs rfl B.abs bt_abs (pd_shcons (PE.sh (pd_op op_addU imp_add (PE.sh (pd_op op_mulB imp_Ic (PE.sh (pd_ix (pd_own (pv 3)) (PE.sh (pd_int pe_int)))) (pd_own (pv 0)))) (PE.sh (pd_op op_mulB imp_Ic (PE.sh (pd_ix (pd_own (pv 3)) (PE.sh (pd_int pe_int)))) (pd_own (pv 1)))))) pd_shnil)) (pd_acons (pd_callB call_abs imp_abs rfl B.abs bt_abs (pd_shcons (PE.sh (pd_op op_addU imp_add (PE.sh (pd_op op_mulB imp_Ic (PE.sh (pd_ix (pd_own (pv 4)) (PE.sh (pd_int pe_int)))) (pd_own (pv 0)))) (PE.sh (pd_op op_mulB imp_Ic (PE.sh (pd_ix (pd_own (pv 4)) (PE.sh (pd_int pe_int)))) (pd_own (pv 1)))))) pd_shnil)) pd_anil)))))))))
theorem ok_greatest_divisor (F : Df K mg "greatest_divisor" s_greatest_divisor ["one", "other"]) (B : Bs mg) (C_LONG : Cn mg "LONG" (.int (4000))) (D_leap : Dn P w K mg base 1 "leap" ["one", "other"] (spD K 2 G_leap)) : Dn P w K mg base 2 "greatest_divisor" ["one", "other"] (spD K 2 G_greatest_divisor) :=
  pd_def [] g_greatest_divisor F sc_greatest_divisor fun f cdv A outer s H E hr => (pd_seq (pd_set (ps_set (i := 0) sc_greatest_divisor.nd rfl (Or.inl rfl) (pd_callB call_abs imp_abs rfl B.abs bt_abs (pd_shcons (pd_own (pv 0)) pd_shnil))))
    (pd_seq (pd_set (ps_set (i := 1) sc_greatest_divisor.nd rfl (Or.inl rfl) (pd_callB call_abs imp_abs rfl B.abs bt_abs (pd_shcons (pd_own (pv 1)) pd_shnil))))
    (pd_seq (pd_while PassesOwn.never (pd_tcmp (op_neH hr) imp_ne (pd_own (pv 1)) (PE.sh (pd_int pe_int)) (nomark _)) (pd_seq (pd_set (ps_set (i := 2) sc_greatest_divisor.nd rfl (Or.inl rfl) (pd_op op_modN imp_Ic (pd_own (pv 0)) (pd_own (pv 1)))))
    (pd_seq (pd_set (ps_set (i := 0) sc_greatest_divisor.nd rfl (Or.inl rfl) (pd_var (pv 1))))
    (pd_seq (pd_set (ps_set (i := 1) sc_greatest_divisor.nd rfl (Or.inl rfl) (pd_var (pv 2))))
    (pd_one (pd_if (pd_tcmp op_gt imp_Ib (PE.sh (pd_bits (pd_own (pv 1)))) (PE.sh (pd_int (pe_cn C_LONG))) (nomark _)) (pd_seq (pd_set (ps_set (i := 3) sc_greatest_divisor.nd rfl (Or.inl rfl) (pd_call D_leap hr (by decide) (pd_acons (pd_var (pv 0)) (pd_acons (pd_var (pv 1)) pd_anil)))))
    (pd_seq (pd_set (ps_set (i := 0) sc_greatest_divisor.nd rfl (Or.inl rfl) (pd_ix (pd_own (pv 3)) (PE.sh (pd_int pe_int)))))
    (pd_one (pd_set (ps_set (i := 1) sc_greatest_divisor.nd rfl (Or.inl rfl) (pd_ix (pd_own (pv 3)) (PE.sh (pd_int pe_int)))))))) pd_nil))))))
    (pd_one (pd_ret (pd_var (pv 0)))))))
theorem ok_frac (F : Df K mg "frac" s_frac ["top", "bottom"]) (B : Bs mg) (D_greatest_divisor : Dn P w K mg base 2 "greatest_divisor" ["one", "other"] (spD K 2 G_greatest_divisor)) : Dn P w K mg base 3 "frac" ["top", "bottom"] (spD K 2 G_frac) :=
  pd_def [] g_frac F sc_frac fun f cdv A outer s H E hr => (pd_seq (pd_if (pd_tcmp (op_eqH hr) imp_eq (pd_own (pv 1)) (PE.sh (pd_int pe_int)) (nomark _)) (pd_one pd_never) pd_nil)
    (pd_seq (pd_set (ps_set (i := 2) sc_frac.nd rfl (Or.inl rfl) (pd_call D_greatest_divisor hr (by decide) (pd_acons (pd_var (pv 0)) (pd_acons (pd_var (pv 1)) pd_anil)))))
    (pd_seq (pd_if (pd_tcmp op_lt imp_Ib (pd_own (pv 1)) (PE.sh (pd_int pe_int)) (nomark _)) (pd_one (pd_set (ps_set (i := 2) sc_frac.nd rfl (Or.inl rfl) (pd_neg (pd_own (pv 2)))))) pd_nil)
    (pd_one (pd_ret (pd_tup (pd_acons (pd_op op_fdivS imp_Ic (pd_own (pv 0)) (pd_own (pv 2))) (pd_acons (pd_op op_fdivS imp_Ic (pd_own (pv 1)) (pd_own (pv 2))) pd_anil))))))))
theorem ok_plus (F : Df K mg "plus" s_plus ["one", "other"]) (B : Bs mg) (D_frac : Dn P w K mg base 3 "frac" ["top", "bottom"] (spD K 2 G_frac)) (D_greatest_divisor : Dn P w K mg base 2 "greatest_divisor" ["one", "other"] (spD K 2 G_greatest_divisor)) : Dn P w K mg base 4 "plus" ["one", "other"] (spD K 2 G_plus) :=
  pd_def [] g_plus F sc_plus fun f cdv A outer s H E hr => (pd_seq (pd_set (ps_set (i := 2) sc_plus.nd rfl (Or.inl rfl) (pd_call D_greatest_divisor hr (by decide) (pd_acons (pd_ix (pd_own (pv 0)) (PE.sh (pd_int pe_int))) (pd_acons (pd_ix (pd_own (pv 1)) (PE.sh (pd_int pe_int))) pd_anil)))))
    (pd_seq (pd_set (ps_set (i := 3) sc_plus.nd rfl (Or.inl rfl) (pd_op op_fdivS imp_Ic (PE.sh (pd_ix (pd_own (pv 0)) (PE.sh (pd_int pe_int)))) (pd_own (pv 2)))))
    (pd_seq (pd_set (ps_set (i := 4) sc_plus.nd rfl (Or.inl rfl) (pd_op op_fdivS imp_Ic (PE.sh (pd_ix (pd_own (pv 1)) (PE.sh (pd_int pe_int)))) (pd_own (pv 2)))))
    (pd_seq (pd_set (ps_set (i := 5) sc_plus.nd rfl (Or.inl rfl) (pd_call D_frac hr (by decide) (pd_acons (pd_op op_addU imp_add (PE.sh (pd_op op_mulB imp_Ic (PE.sh (pd_ix (pd_own (pv 0)) (PE.sh (pd_int pe_int)))) (pd_own (pv 4)))) (PE.sh (pd_op op_mulB imp_Ic (PE.sh (pd_ix (pd_own (pv 1)) (PE.sh (pd_int pe_int)))) (pd_own (pv 3))))) (pd_acons (pd_var (pv 2)) pd_anil)))))
    (pd_one (pd_ret (pd_tup (pd_acons (pd_ix (pd_own (pv 5)) (PE.sh (pd_int pe_int))) (pd_acons (pd_op op_mulB imp_Ic (PE.sh (pd_op op_mulB imp_Ic (pd_own (pv 3)) (pd_own (pv 4)))) (PE.sh (pd_ix (pd_own (pv 5)) (PE.sh (pd_int pe_int))))) pd_anil)))))))))
theorem ok_minus (F : Df K mg "minus" s_minus ["one", "other"]) (B : Bs mg) (D_plus : Dn P w K mg base 4 "plus" ["one", "other"] (spD K 2 G_plus)) : Dn P w K mg base 5 "minus" ["one", "other"] (spD K 2 G_minus) :=
  pd_def [] g_minus F sc_minus fun f cdv A outer s H E hr => (pd_one (pd_ret (pd_call D_plus hr (by decide) (pd_acons (pd_var (pv 0)) (pd_acons (pd_tup (pd_acons (pd_neg (PE.sh (pd_ix (pd_own (pv 1)) (PE.sh (pd_int pe_int))))) (pd_acons (pd_ix (pd_own (pv 1)) (PE.sh (pd_int pe_int))) pd_anil))) pd_anil)))))
theorem ok_times (F : Df K mg "times" s_times ["one", "other"]) (B : Bs mg) (D_frac : Dn P w K mg base 3 "frac" ["top", "bottom"] (spD K 2 G_frac)) : Dn P w K mg base 4 "times" ["one", "other"] (spD K 2 G_times) :=
  pd_def [] g_times F sc_times fun f cdv A outer s H E hr => (pd_seq (pd_set (ps_set (i := 2) sc_times.nd rfl (Or.inl rfl) (pd_call D_frac hr (by decide) (pd_acons (pd_ix (pd_own (pv 0)) (PE.sh (pd_int pe_int))) (pd_acons (pd_ix (pd_own (pv 1)) (PE.sh (pd_int pe_int))) pd_anil)))))
    (pd_seq (pd_set (ps_set (i := 3) sc_times.nd rfl (Or.inl rfl) (pd_call D_frac hr (by decide) (pd_acons (pd_ix (pd_own (pv 1)) (PE.sh (pd_int pe_int))) (pd_acons (pd_ix (pd_own (pv 0)) (PE.sh (pd_int pe_int))) pd_anil)))))
    (pd_one (pd_ret (pd_tup (pd_acons (pd_op op_mulB imp_Ic (PE.sh (pd_ix (pd_own (pv 2)) (PE.sh (pd_int pe_int)))) (PE.sh (pd_ix (pd_own (pv 3)) (PE.sh (pd_int pe_int))))) (pd_acons (pd_op op_mulB imp_Ic (PE.sh (pd_ix (pd_own (pv 2)) (PE.sh (pd_int pe_int)))) (PE.sh (pd_ix (pd_own (pv 3)) (PE.sh (pd_int pe_int))))) pd_anil)))))))
theorem ok_over (F : Df K mg "over" s_over ["one", "other"]) (B : Bs mg) (D_frac : Dn P w K mg base 3 "frac" ["top", "bottom"] (spD K 2 G_frac)) (D_times : Dn P w K mg base 4 "times" ["one", "other"] (spD K 2 G_times)) : Dn P w K mg base 5 "over" ["one", "other"] (spD K 2 G_over) :=
  pd_def [] g_over F sc_over fun f cdv A outer s H E hr => (pd_one (pd_ret (pd_call D_times hr (by decide) (pd_acons (pd_var (pv 0)) (pd_acons (pd_call D_frac hr (by decide) (pd_acons (pd_ix (pd_own (pv 1)) (PE.sh (pd_int pe_int))) (pd_acons (pd_ix (pd_own (pv 1)) (PE.sh (pd_int pe_int))) pd_anil))) pd_anil)))))
theorem ok_power (F : Df K mg "power" s_power ["one", "many"]) (B : Bs mg) : Dn P w K mg base 1 "power" ["one", "many"] (spD K 2 G_power) :=
  pd_def [] g_power F sc_power fun f cdv A outer s H E hr => (pd_seq (pd_set (ps_set (i := 2) sc_power.nd rfl (Or.inl rfl) (pd_int pe_int)))
    (pd_seq (pd_set (ps_set (i := 3) sc_power.nd rfl (Or.inl rfl) (pd_int pe_int)))
    (pd_seq (pd_for PassesOwn.never rfl (pd_range1 B.range (pd_acons (pd_var (pv 1)) pd_anil)) (pd_gname (pg_name (i := 4) sc_power.nd rfl (Or.inl rfl)))
      (pd_seq (pd_set (ps_set (i := 2) sc_power.nd rfl (Or.inl rfl) (pd_op op_mulB imp_Ic (pd_own (pv 2)) (PE.sh (pd_ix (pd_own (pv 0)) (PE.sh (pd_int pe_int)))))))
    (pd_one (pd_set (ps_set (i := 3) sc_power.nd rfl (Or.inl rfl) (pd_op op_mulB imp_Ic (pd_own (pv 3)) (PE.sh (pd_ix (pd_own (pv 0)) (PE.sh (pd_int pe_int))))))))))
    (pd_one (pd_ret (pd_tup (pd_acons (pd_var (pv 2)) (pd_acons (pd_var (pv 3)) pd_anil))))))))
theorem ok_under (F : Df K mg "under" s_under ["one", "other"]) (B : Bs mg) : Dn P w K mg base 1 "under" ["one", "other"] (spD K 2 G_under) :=
  pd_def [] g_under F sc_under fun f cdv A outer s H E hr => (pd_one (pd_ret (pd_cmp op_lt imp_Ib (PE.sh (pd_op op_mulB imp_Ic (PE.sh (pd_ix (pd_own (pv 0)) (PE.sh (pd_int pe_int)))) (PE.sh (pd_ix (pd_own (pv 1)) (PE.sh (pd_int pe_int)))))) (PE.sh (pd_op op_mulB imp_Ic (PE.sh (pd_ix (pd_own (pv 1)) (PE.sh (pd_int pe_int)))) (PE.sh (pd_ix (pd_own (pv 0)) (PE.sh (pd_int pe_int)))))) (nomark _))))
theorem ok_check_shares (F : Df K mg "check_shares" s_check_shares ["low", "high"]) (B : Bs mg) {pNOUGHT : Addr} (C_NOUGHT : Cn mg "NOUGHT" (.ref pNOUGHT)) (M_NOUGHT : (pNOUGHT, [V.int (0), V.int (1)]) ∈ cstTab) {pWHOLE : Addr} (C_WHOLE : Cn mg "WHOLE" (.ref pWHOLE)) (M_WHOLE : (pWHOLE, [V.int (1), V.int (1)]) ∈ cstTab) (D_under : Dn P w K mg base 1 "under" ["one", "other"] (spD K 2 G_under)) : Dn P w K mg base 2 "check_shares" ["low", "high"] (spD K 2 G_check_shares) :=
  pd_def [] g_check_shares F sc_check_shares fun f cdv A outer s H E hr => (pd_one (pd_if (pd_tnot (PW.pt (pd_tand (pd_truth (PE.sh (pd_call D_under hr (by decide) (pd_acons (pd_ct (pe_cn C_NOUGHT) M_NOUGHT (fun _ => (.cons (.int _) (.cons (.int _) .nil)))) (pd_acons (pd_var (pv 0)) pd_anil))))) (pd_tand (pd_truth (PE.sh (pd_call D_under hr (by decide) (pd_acons (pd_var (pv 0)) (pd_acons (pd_var (pv 1)) pd_anil))))) (pw_and1 (pd_truth (PE.sh (pd_call D_under hr (by decide) (pd_acons (pd_var (pv 1)) (pd_acons (pd_ct (pe_cn C_WHOLE) M_WHOLE (fun _ => (.cons (.int _) (.cons (.int _) .nil)))) pd_anil)))))))))) (pd_one pd_never) pd_nil))
theorem ok_often (F : Df K mg "often" s_often ["count", "share"]) (B : Bs mg) {pWHOLE : Addr} (C_WHOLE : Cn mg "WHOLE" (.ref pWHOLE)) (M_WHOLE : (pWHOLE, [V.int (1), V.int (1)]) ∈ cstTab) (D_minus : Dn P w K mg base 5 "minus" ["one", "other"] (spD K 2 G_minus)) (D_power : Dn P w K mg base 1 "power" ["one", "many"] (spD K 2 G_power)) : Dn P w K mg base 6 "often" ["count", "share"] (spD K 2 G_often) :=
  pd_def [] g_often F sc_often fun f cdv A outer s H E hr => (pd_seq (pd_set (ps_set (i := 2) sc_often.nd rfl (Or.inl rfl) (pd_call D_power hr (by decide) (pd_acons (pd_var (pv 1)) (pd_acons (pd_ix (pd_own (pv 0)) (PE.sh (pd_int pe_int))) pd_anil)))))
    (pd_seq (pd_set (ps_set (i := 3) sc_often.nd rfl (Or.inl rfl) (pd_call D_power hr (by decide) (pd_acons (pd_call D_minus hr (by decide) (pd_acons (pd_ct (pe_cn C_WHOLE) M_WHOLE (fun _ => (.cons (.int _) (.cons (.int _) .nil)))) (pd_acons (pd_var (pv 1)) pd_anil))) (pd_acons (pd_ix (pd_own (pv 0)) (PE.sh (pd_int pe_int))) pd_anil)))))
    (pd_one (pd_ret (pd_tup (pd_acons (pd_op op_mulB imp_Ic (PE.sh (pd_ix (pd_own (pv 2)) (PE.sh (pd_int pe_int)))) (PE.sh (pd_ix (pd_own (pv 3)) (PE.sh (pd_int pe_int))))) (pd_acons (pd_op op_mulB imp_Ic (PE.sh (pd_ix (pd_own (pv 2)) (PE.sh (pd_int pe_int)))) (PE.sh (pd_ix (pd_own (pv 3)) (PE.sh (pd_int pe_int))))) pd_anil)))))))
theorem ok_ratio (F : Df K mg "ratio" s_ratio ["count", "low", "high"]) (B : Bs mg) (D_check_shares : Dn P w K mg base 2 "check_shares" ["low", "high"] (spD K 2 G_check_shares)) (D_often : Dn P w K mg base 6 "often" ["count", "share"] (spD K 2 G_often)) (D_over : Dn P w K mg base 5 "over" ["one", "other"] (spD K 2 G_over)) : Dn P w K mg base 7 "ratio" ["count", "low", "high"] (spD K 3 G_ratio) :=
  pd_def [] g_ratio F sc_ratio fun f cdv A outer s H E hr => (pd_seq (pd_drop (ps_expr (pd_call D_check_shares hr (by decide) (pd_acons (pd_var (pv 1)) (pd_acons (pd_var (pv 2)) pd_anil)))))
    (pd_one (pd_ret (pd_call D_over hr (by decide) (pd_acons (pd_call D_often hr (by decide) (pd_acons (pd_var (pv 0)) (pd_acons (pd_var (pv 2)) pd_anil))) (pd_acons (pd_call D_often hr (by decide) (pd_acons (pd_var (pv 0)) (pd_acons (pd_var (pv 1)) pd_anil))) pd_anil))))))
theorem ok_law_cell (F : Df K mg "_law_cell" s_law_cell ["_law_script", "_law_k"]) (B : Bs mg) : Dn P w K mg base 1 "_law_cell" ["_law_script", "_law_k"] (spD K 2 G_law_cell) :=
  pd_def [] g_law_cell F sc_law_cell fun f cdv A outer s H E hr => (pd_seq (pd_if (pd_tcmp op_lt imp_Ib (pd_own (pv 1)) (PE.sh (pd_callB call_lenU imp_len rfl B.len bt_len (pd_shcons (pd_own (pv 0)) pd_shnil))) (nomark _)) (pd_one (pd_ret (pd_ix (pd_own (pv 0)) (pd_own (pv 1))))) pd_nil)
    (pd_one (pd_ret (pd_int pe_int))))
theorem ok_law_whole (F : Df K mg "_law_whole" s_law_whole ["_law_found"]) (B : Bs mg) : Dn P w K mg base 1 "_law_whole" ["_law_found"] (spD K 1 G_law_whole) :=
  pd_def [] g_law_whole F sc_law_whole fun f cdv A outer s H E hr => (pd_one (pd_ret (pd_and (pd_isi "int" B.isinstance (pd_own (pv 0)) (pe_bltn rfl B.int bt_int (v := .ty "int") rfl)) (pe_one (pd_not (PE.sh (pd_isi "bool" B.isinstance (pd_own (pv 0)) (pe_bltn rfl B.bool bt_bool (v := .ty "bool") rfl))))))))
theorem ok_law_divisor (F : Df K mg "_law_divisor" s_law_divisor ["_law_one", "_law_other"]) (B : Bs mg) : Dn P w K mg base 1 "_law_divisor" ["_law_one", "_law_other"] (spD K 2 G_law_divisor) :=
  pd_def [] g_law_divisor F sc_law_divisor fun f cdv A outer s H E hr => (pd_seq (pd_while PassesOwn.never (pd_tcmp (op_neH hr) imp_ne (pd_own (pv 1)) (PE.sh (pd_int pe_int)) (nomark _)) (pd_one (pd_par (ps_par (i := 0) (j := 1) rfl sc_law_divisor.nd rfl rfl (by decide) rfl rfl (pd_acons (pd_var (pv 1)) (pd_acons (pd_op op_modN imp_Ic (pd_own (pv 0)) (pd_own (pv 1))) pd_anil)) rfl))))
    (pd_one (pd_ret (pd_callB call_abs imp_abs rfl B.abs bt_abs (pd_shcons (pd_own (pv 0)) pd_shnil)))))
theorem ok_law_is_frac (F : Df K mg "_law_is_frac" s_law_is_frac ["_law_found", "_law_top", "_law_bottom"]) (B : Bs mg) (D_law_divisor : Dn P w K mg base 1 "_law_divisor" ["_law_one", "_law_other"] (spD K 2 G_law_divisor)) (D_law_whole : Dn P w K mg base 1 "_law_whole" ["_law_found"] (spD K 1 G_law_whole)) : Dn P w K mg base 2 "_law_is_frac" ["_law_found", "_law_top", "_law_bottom"] (spD K 3 G_law_is_frac) :=
  pd_def [] g_law_is_frac F sc_law_is_frac fun f cdv A outer s H E hr => (pd_seq (pd_if (PW.pt (pd_tor (pd_tnot (pd_truth (PE.sh (pd_isi "tuple" B.isinstance (pd_own (pv 0)) (pe_bltn rfl B.tuple bt_tuple (v := .ty "tuple") rfl))))) (pd_tor (pd_tcmp (op_neH hr) imp_ne (PE.sh (pd_callB call_lenU imp_len rfl B.len bt_len (pd_shcons (pd_own (pv 0)) pd_shnil))) (PE.sh (pd_int pe_int)) (nomark _)) (pd_tor (pd_tnot (pd_truth (PE.sh (pd_call D_law_whole hr (by decide) (pd_acons (pd_ix (pd_own (pv 0)) (PE.sh (pd_int pe_int))) pd_anil))))) (pw_or1 (pd_tnot (pd_truth (PE.sh (pd_call D_law_whole hr (by decide) (pd_acons (pd_ix (pd_own (pv 0)) (PE.sh (pd_int pe_int))) pd_anil)))))))))) (pd_one (pd_ret (pd_bl pe_bl))) pd_nil)
    (pd_seq (pd_if (PW.pt (pd_tor (pd_tcmp op_lt imp_Ib (PE.sh (pd_ix (pd_own (pv 0)) (PE.sh (pd_int pe_int)))) (PE.sh (pd_int pe_int)) (nomark _)) (pw_or1 (pd_tcmp (op_neH hr) imp_ne (PE.sh (pd_call D_law_divisor hr (by decide) (pd_acons (pd_ix (pd_own (pv 0)) (PE.sh (pd_int pe_int))) (pd_acons (pd_ix (pd_own (pv 0)) (PE.sh (pd_int pe_int))) pd_anil)))) (PE.sh (pd_int pe_int)) (nomark _))))) (pd_one (pd_ret (pd_bl pe_bl))) pd_nil)
    (pd_one (pd_ret (pd_cmp (op_eqH hr) imp_eq (PE.sh (pd_op op_mulB imp_Ic (PE.sh (pd_ix (pd_own (pv 0)) (PE.sh (pd_int pe_int)))) (pd_own (pv 2)))) (PE.sh (pd_op op_mulB imp_Ic (pd_own (pv 1)) (PE.sh (pd_ix (pd_own (pv 0)) (PE.sh (pd_int pe_int)))))) (nomark _))))))
theorem ok_law_shares (F : Df K mg "_law_shares" s_law_shares ["_law_cell_here"]) (B : Bs mg) : Dn P w K mg base 1 "_law_shares" ["_law_cell_here"] (spD K 1 G_law_shares) :=
  pd_def [] g_law_shares F sc_law_shares fun f cdv A outer s H E hr => (pd_seq (pd_set (ps_set (i := 1) sc_law_shares.nd rfl (Or.inl rfl) (pd_op op_addU imp_add (PE.sh (pd_int pe_int)) (PE.sh (pd_op op_modN imp_Ic (PE.sh (pd_op op_fdivS imp_Ic (pd_own (pv 0)) (PE.sh (pd_int pe_int)))) (PE.sh (pd_int pe_int)))))))
    (pd_seq (pd_set (ps_set (i := 2) sc_law_shares.nd rfl (Or.inl rfl) (pd_op op_fdivS imp_Ic (pd_own (pv 0)) (PE.sh (pd_int pe_int)))))
    (pd_seq (pd_if (pd_tcmp (op_eqH hr) imp_eq (PE.sh (pd_op op_modN imp_Ic (pd_own (pv 0)) (PE.sh (pd_int pe_int)))) (PE.sh (pd_int pe_int)) (nomark _)) (pd_seq (pd_set (ps_set (i := 1) sc_law_shares.nd rfl (Or.inl rfl) (pd_op op_addU imp_add (PE.sh (pd_int pe_int)) (PE.sh (pd_op op_modN imp_Ic (PE.sh (pd_op op_fdivS imp_Ic (pd_own (pv 0)) (PE.sh (pd_int pe_int)))) (PE.sh (pd_op op_pow imp_Ic (PE.sh (pd_int pe_int)) (PE.sh (pd_int pe_int)))))))))
    (pd_one (pd_set (ps_set (i := 2) sc_law_shares.nd rfl (Or.inl rfl) (pd_op op_addU imp_add (PE.sh (pd_op op_fdivS imp_Ic (PE.sh (pd_op op_fdivS imp_Ic (pd_own (pv 0)) (PE.sh (pd_int pe_int)))) (PE.sh (pd_op op_pow imp_Ic (PE.sh (pd_int pe_int)) (PE.sh (pd_int pe_int)))))) (PE.sh (pd_op op_fdivS imp_Ic (pd_own (pv 0)) (PE.sh (pd_int pe_int))))))))) pd_nil)
    (pd_seq (pd_set (ps_set (i := 3) sc_law_shares.nd rfl (Or.inl rfl) (pd_op op_addU imp_add (PE.sh (pd_int pe_int)) (PE.sh (pd_op op_modN imp_Ic (pd_own (pv 2)) (PE.sh (pd_op op_sub imp_I (pd_own (pv 1)) (PE.sh (pd_int pe_int)))))))))
    (pd_seq (pd_set (ps_set (i := 4) sc_law_shares.nd rfl (Or.inl rfl) (pd_op op_addU imp_add (PE.sh (pd_op op_addU imp_add (pd_own (pv 3)) (PE.sh (pd_int pe_int)))) (PE.sh (pd_op op_modN imp_Ic (PE.sh (pd_op op_fdivS imp_Ic (pd_own (pv 2)) (PE.sh (pd_op op_sub imp_I (pd_own (pv 1)) (PE.sh (pd_int pe_int)))))) (PE.sh (pd_op op_sub imp_I (PE.sh (pd_op op_sub imp_I (pd_own (pv 1)) (PE.sh (pd_int pe_int)))) (pd_own (pv 3)))))))))
    (pd_one (pd_ret (pd_tup (pd_acons (pd_var (pv 3)) (pd_acons (pd_var (pv 4)) (pd_acons (pd_var (pv 1)) pd_anil)))))))))))
theorem ok_law_made (F : Df K mg "_law_made" s_law_made ["_law_top", "_law_bottom"]) (B : Bs mg) (D_law_divisor : Dn P w K mg base 1 "_law_divisor" ["_law_one", "_law_other"] (spD K 2 G_law_divisor)) : Dn P w K mg base 2 "_law_made" ["_law_top", "_law_bottom"] (spD K 2 G_law_made) :=
  pd_def [] g_law_made F sc_law_made fun f cdv A outer s H E hr => (pd_seq (pd_set (ps_set (i := 2) sc_law_made.nd rfl (Or.inl rfl) (pd_call D_law_divisor hr (by decide) (pd_acons (pd_var (pv 0)) (pd_acons (pd_var (pv 1)) pd_anil)))))
    (pd_one (pd_ret (pd_tup (pd_acons (pd_op op_fdivS imp_Ic (pd_own (pv 0)) (pd_own (pv 2))) (pd_acons (pd_op op_fdivS imp_Ic (pd_own (pv 1)) (pd_own (pv 2))) pd_anil))))))
theorem ok_law_times (F : Df K mg "_law_times" s_law_times ["_law_base", "_law_many"]) (B : Bs mg) : Dn P w K mg base 1 "_law_times" ["_law_base", "_law_many"] (spD K 2 G_law_times) :=
  pd_def [] g_law_times F sc_law_times fun f cdv A outer s H E hr => (pd_seq (pd_set (ps_set (i := 2) sc_law_times.nd rfl (Or.inl rfl) (pd_int pe_int)))
    (pd_seq (pd_for PassesOwn.never rfl (pd_range1 B.range (pd_acons (pd_var (pv 1)) pd_anil)) (pd_gname (pg_name (i := 3) sc_law_times.nd rfl (Or.inl rfl)))
      (pd_one (pd_set (ps_set (i := 2) sc_law_times.nd rfl (Or.inl rfl) (pd_op op_mulB imp_Ic (pd_own (pv 2)) (pd_own (pv 0)))))))
    (pd_one (pd_ret (pd_var (pv 2))))))
theorem ok_law_weight (F : Df K mg "_law_weight" s_law_weight ["_law_count", "_law_top", "_law_bottom"]) (B : Bs mg) (D_law_times : Dn P w K mg base 1 "_law_times" ["_law_base", "_law_many"] (spD K 2 G_law_times)) : Dn P w K mg base 2 "_law_weight" ["_law_count", "_law_top", "_law_bottom"] (spD K 3 G_law_weight) :=
  pd_def [] g_law_weight F sc_law_weight fun f cdv A outer s H E hr => (pd_one (pd_ret (pd_op op_mulB imp_Ic (PE.sh (pd_call D_law_times hr (by decide) (pd_acons (pd_var (pv 1)) (pd_acons (pd_ix (pd_own (pv 0)) (PE.sh (pd_int pe_int))) pd_anil)))) (PE.sh (pd_call D_law_times hr (by decide) (pd_acons (pd_op op_sub imp_I (pd_own (pv 2)) (pd_own (pv 1))) (pd_acons (pd_ix (pd_own (pv 0)) (PE.sh (pd_int pe_int))) pd_anil)))))))
theorem ok_law_under (F : Df K mg "_law_under" s_law_under ["_law_one", "_law_other"]) (B : Bs mg) : Dn P w K mg base 1 "_law_under" ["_law_one", "_law_other"] (spD K 2 G_law_under) :=
  pd_def [] g_law_under F sc_law_under fun f cdv A outer s H E hr => (pd_one (pd_ret (pd_cmp op_lt imp_Ib (PE.sh (pd_op op_mulB imp_Ic (PE.sh (pd_ix (pd_own (pv 0)) (PE.sh (pd_int pe_int)))) (PE.sh (pd_ix (pd_own (pv 1)) (PE.sh (pd_int pe_int)))))) (PE.sh (pd_op op_mulB imp_Ic (PE.sh (pd_ix (pd_own (pv 1)) (PE.sh (pd_int pe_int)))) (PE.sh (pd_ix (pd_own (pv 0)) (PE.sh (pd_int pe_int)))))) (nomark _))))
theorem ok_law_asked (F : Df K mg "_law_asked" s_law_asked ["_law_both", "_law_bad", "_law_good"]) (B : Bs mg) (D_law_is_frac : Dn P w K mg base 2 "_law_is_frac" ["_law_found", "_law_top", "_law_bottom"] (spD K 3 G_law_is_frac)) (D_law_made : Dn P w K mg base 2 "_law_made" ["_law_top", "_law_bottom"] (spD K 2 G_law_made)) (D_law_under : Dn P w K mg base 1 "_law_under" ["_law_one", "_law_other"] (spD K 2 G_law_under)) (D_law_weight : Dn P w K mg base 2 "_law_weight" ["_law_count", "_law_top", "_law_bottom"] (spD K 3 G_law_weight)) (D_ratio : Dn P w K mg base 7 "ratio" ["count", "low", "high"] (spD K 3 G_ratio)) : Dn P w K mg base 8 "_law_asked" ["_law_both", "_law_bad", "_law_good"] (spD K 3 G_law_asked) :=
  pd_def [] g_law_asked F sc_law_asked fun f cdv A outer s H E hr => (pd_seq (pd_set (ps_set (i := 3) sc_law_asked.nd rfl (Or.inl rfl) (pd_call D_law_made hr (by decide) (pd_acons (pd_ix (pd_own (pv 0)) (PE.sh (pd_int pe_int))) (pd_acons (pd_ix (pd_own (pv 0)) (PE.sh (pd_int pe_int))) pd_anil)))))
    (pd_seq (pd_set (ps_set (i := 4) sc_law_asked.nd rfl (Or.inl rfl) (pd_call D_law_made hr (by decide) (pd_acons (pd_ix (pd_own (pv 0)) (PE.sh (pd_int pe_int))) (pd_acons (pd_ix (pd_own (pv 0)) (PE.sh (pd_int pe_int))) pd_anil)))))
    (pd_seq (pd_set (ps_set (i := 5) sc_law_asked.nd rfl (Or.inl rfl) (pd_call D_ratio hr (by decide) (pd_acons (pd_tup (pd_acons (pd_var (pv 1)) (pd_acons (pd_var (pv 2)) pd_anil))) (pd_acons (pd_var (pv 3)) (pd_acons (pd_var (pv 4)) pd_anil))))))
    (pd_seq (pd_set (ps_set (i := 6) sc_law_asked.nd rfl (Or.inl rfl) (pd_call D_law_weight hr (by decide) (pd_acons (pd_tup (pd_acons (pd_var (pv 1)) (pd_acons (pd_var (pv 2)) pd_anil))) (pd_acons (pd_ix (pd_own (pv 0)) (PE.sh (pd_int pe_int))) (pd_acons (pd_ix (pd_own (pv 0)) (PE.sh (pd_int pe_int))) pd_anil))))))
    (pd_seq (pd_set (ps_set (i := 7) sc_law_asked.nd rfl (Or.inl rfl) (pd_call D_law_weight hr (by decide) (pd_acons (pd_tup (pd_acons (pd_var (pv 1)) (pd_acons (pd_var (pv 2)) pd_anil))) (pd_acons (pd_ix (pd_own (pv 0)) (PE.sh (pd_int pe_int))) (pd_acons (pd_ix (pd_own (pv 0)) (PE.sh (pd_int pe_int))) pd_anil))))))
    (pd_seq (pd_if (pd_tnot (pd_truth (PE.sh (pd_call D_law_is_frac hr (by decide) (pd_acons (pd_var (pv 5)) (pd_acons (pd_var (pv 6)) (pd_acons (pd_var (pv 7)) pd_anil))))))) (pd_one (pd_ret (pd_bl pe_bl))) pd_nil)
    (pd_one (pd_ret (pd_and (pd_call D_law_under hr (by decide) (pd_acons (pd_var (pv 5)) (pd_acons (pd_call D_ratio hr (by decide) (pd_acons (pd_tup (pd_acons (pd_op op_addU imp_add (pd_own (pv 1)) (PE.sh (pd_int pe_int))) (pd_acons (pd_var (pv 2)) pd_anil))) (pd_acons (pd_var (pv 3)) (pd_acons (pd_var (pv 4)) pd_anil)))) pd_anil))) (pe_one (pd_call D_law_under hr (by decide) (pd_acons (pd_call D_ratio hr (by decide) (pd_acons (pd_tup (pd_acons (pd_var (pv 1)) (pd_acons (pd_op op_addU imp_add (pd_own (pv 2)) (PE.sh (pd_int pe_int))) pd_anil))) (pd_acons (pd_var (pv 3)) (pd_acons (pd_var (pv 4)) pd_anil)))) (pd_acons (pd_var (pv 5)) pd_anil)))))))))))))
theorem ok_law {f : Addr} {fd : FuncData} (F : Fun K "law" "law" s_law f fd) (B : Bs mg) (D_law_asked : Dn P w K mg base 8 "_law_asked" ["_law_both", "_law_bad", "_law_good"] (spD K 3 G_law_asked)) (D_law_cell : Dn P w K mg base 1 "_law_cell" ["_law_script", "_law_k"] (spD K 2 G_law_cell)) (D_law_shares : Dn P w K mg base 1 "_law_shares" ["_law_cell_here"] (spD K 1 G_law_shares)) : FnOk P w K mg base CX0 9 f fd ["_law_script"] (spD K 1 G_law) :=
  pd_fn [] g_law F sc_law fun f cdv A outer s H E hr => (pd_seq (pd_for PassesOwn.never rfl (pd_range1 B.range (pd_acons (pd_callB (call_max2 rfl) imp_max rfl B.max bt_max (pd_shcons (PE.sh (pd_int pe_int)) (pd_shcons (PE.sh (pd_callB (call_min2 rfl) imp_min rfl B.min bt_min (pd_shcons (PE.sh (pd_int pe_int)) (pd_shcons (PE.sh (pd_callB call_lenU imp_len rfl B.len bt_len (pd_shcons (pd_own (pv 0)) pd_shnil))) pd_shnil)))) pd_shnil))) pd_anil)) (pd_gname (pg_name (i := 1) sc_law.nd rfl (Or.inl rfl)))
      (pd_seq (pd_set (ps_set (i := 2) sc_law.nd rfl (Or.inl rfl) (pd_call D_law_cell hr (by decide) (pd_acons (pd_var (pv 0)) (pd_acons (pd_op op_addU imp_add (pd_own (pv 1)) (PE.sh (pd_int pe_int))) pd_anil)))))
    (pd_seq (pd_set (ps_set (i := 3) sc_law.nd rfl (Or.inl rfl) (pd_int pe_int)))
    (pd_seq (pd_if (pd_tcmp (op_eqH hr) imp_eq (PE.sh (pd_op op_modN imp_Ic (pd_own (pv 2)) (PE.sh (pd_int pe_int)))) (PE.sh (pd_int pe_int)) (nomark _)) (pd_one (pd_set (ps_set (i := 3) sc_law.nd rfl (Or.inl rfl) (pd_int pe_int)))) pd_nil)
    (pd_seq (pd_if (PW.pt (pd_tand (pd_tcmp (op_eqH hr) imp_eq (pd_own (pv 1)) (PE.sh (pd_int pe_int)) (nomark _)) (pw_and1 (pd_tcmp (op_eqH hr) imp_eq (PE.sh (pd_op op_modN imp_Ic (pd_own (pv 2)) (PE.sh (pd_int pe_int)))) (PE.sh (pd_int pe_int)) (nomark _))))) (pd_one (pd_set (ps_set (i := 3) sc_law.nd rfl (Or.inl rfl) (pd_int pe_int)))) pd_nil)
    (pd_one (pd_if (pd_tnot (pd_truth (PE.sh (pd_call D_law_asked hr (by decide) (pd_acons (pd_call D_law_shares hr (by decide) (pd_acons (pd_call D_law_cell hr (by decide) (pd_acons (pd_var (pv 0)) (pd_acons (pd_var (pv 1)) pd_anil))) pd_anil)) (pd_acons (pd_op op_modN imp_Ic (PE.sh (pd_op op_fdivS imp_Ic (pd_own (pv 2)) (PE.sh (pd_int pe_int)))) (pd_own (pv 3))) (pd_acons (pd_op op_modN imp_Ic (PE.sh (pd_op op_fdivS imp_Ic (PE.sh (pd_op op_fdivS imp_Ic (pd_own (pv 2)) (PE.sh (pd_int pe_int)))) (pd_own (pv 3)))) (pd_own (pv 3))) pd_anil))))))) (pd_one (pd_ret (pd_bl pe_bl))) pd_nil)))))))
    (pd_one (pd_ret (pd_bl pe_bl))))
end
end MyLaw
namespace MyLaw
open PySem L2 Q1
theorem all_mk {l : PySem.W.OpenLaw} {w : World} {K : PySem.W.Frag} {h : Heap} {mg : Str → Option Value} {fa : Addr} (X : K.In h) (G : h.Ns mainGlobals mg) (hfa : mg "law" = some (.ref fa))
    {f1 : Addr} {od1 an1 : Option Addr} {sl1 : Array (Option Value)} {oc1 kV1 dc1 pm1 cd1 ct1 : Value}
    (a1 : PySem.W.nsIn K mainGlobals "frac" = some (some (.ref f1))) (l1 : K.lookup f1 = some ⟨oc1, od1, .func (PySem.W.fnOf "frac" "frac" (defArgs s_frac) (defBody s_frac) (defScope s_frac) .none kV1 dc1 pm1 an1 cd1 ct1), sl1⟩) (c1 : PySem.W.codeIn K cd1 "frac" = true) (k1 : PySem.W.keepIn K (.ref f1) = true)
    {f2 : Addr} {od2 an2 : Option Addr} {sl2 : Array (Option Value)} {oc2 kV2 dc2 pm2 cd2 ct2 : Value}
    (a2 : PySem.W.nsIn K mainGlobals "plus" = some (some (.ref f2))) (l2 : K.lookup f2 = some ⟨oc2, od2, .func (PySem.W.fnOf "plus" "plus" (defArgs s_plus) (defBody s_plus) (defScope s_plus) .none kV2 dc2 pm2 an2 cd2 ct2), sl2⟩) (c2 : PySem.W.codeIn K cd2 "plus" = true) (k2 : PySem.W.keepIn K (.ref f2) = true)
    {f3 : Addr} {od3 an3 : Option Addr} {sl3 : Array (Option Value)} {oc3 kV3 dc3 pm3 cd3 ct3 : Value}
    (a3 : PySem.W.nsIn K mainGlobals "minus" = some (some (.ref f3))) (l3 : K.lookup f3 = some ⟨oc3, od3, .func (PySem.W.fnOf "minus" "minus" (defArgs s_minus) (defBody s_minus) (defScope s_minus) .none kV3 dc3 pm3 an3 cd3 ct3), sl3⟩) (c3 : PySem.W.codeIn K cd3 "minus" = true) (k3 : PySem.W.keepIn K (.ref f3) = true)
    {f4 : Addr} {od4 an4 : Option Addr} {sl4 : Array (Option Value)} {oc4 kV4 dc4 pm4 cd4 ct4 : Value}
    (a4 : PySem.W.nsIn K mainGlobals "times" = some (some (.ref f4))) (l4 : K.lookup f4 = some ⟨oc4, od4, .func (PySem.W.fnOf "times" "times" (defArgs s_times) (defBody s_times) (defScope s_times) .none kV4 dc4 pm4 an4 cd4 ct4), sl4⟩) (c4 : PySem.W.codeIn K cd4 "times" = true) (k4 : PySem.W.keepIn K (.ref f4) = true)
    {f5 : Addr} {od5 an5 : Option Addr} {sl5 : Array (Option Value)} {oc5 kV5 dc5 pm5 cd5 ct5 : Value}
    (a5 : PySem.W.nsIn K mainGlobals "over" = some (some (.ref f5))) (l5 : K.lookup f5 = some ⟨oc5, od5, .func (PySem.W.fnOf "over" "over" (defArgs s_over) (defBody s_over) (defScope s_over) .none kV5 dc5 pm5 an5 cd5 ct5), sl5⟩) (c5 : PySem.W.codeIn K cd5 "over" = true) (k5 : PySem.W.keepIn K (.ref f5) = true)
    {f6 : Addr} {od6 an6 : Option Addr} {sl6 : Array (Option Value)} {oc6 kV6 dc6 pm6 cd6 ct6 : Value}
    (a6 : PySem.W.nsIn K mainGlobals "power" = some (some (.ref f6))) (l6 : K.lookup f6 = some ⟨oc6, od6, .func (PySem.W.fnOf "power" "power" (defArgs s_power) (defBody s_power) (defScope s_power) .none kV6 dc6 pm6 an6 cd6 ct6), sl6⟩) (c6 : PySem.W.codeIn K cd6 "power" = true) (k6 : PySem.W.keepIn K (.ref f6) = true)
    {f7 : Addr} {od7 an7 : Option Addr} {sl7 : Array (Option Value)} {oc7 kV7 dc7 pm7 cd7 ct7 : Value}
    (a7 : PySem.W.nsIn K mainGlobals "under" = some (some (.ref f7))) (l7 : K.lookup f7 = some ⟨oc7, od7, .func (PySem.W.fnOf "under" "under" (defArgs s_under) (defBody s_under) (defScope s_under) .none kV7 dc7 pm7 an7 cd7 ct7), sl7⟩) (c7 : PySem.W.codeIn K cd7 "under" = true) (k7 : PySem.W.keepIn K (.ref f7) = true)
    {f8 : Addr} {od8 an8 : Option Addr} {sl8 : Array (Option Value)} {oc8 kV8 dc8 pm8 cd8 ct8 : Value}
    (a8 : PySem.W.nsIn K mainGlobals "greatest_divisor" = some (some (.ref f8))) (l8 : K.lookup f8 = some ⟨oc8, od8, .func (PySem.W.fnOf "greatest_divisor" "greatest_divisor" (defArgs s_greatest_divisor) (defBody s_greatest_divisor) (defScope s_greatest_divisor) .none kV8 dc8 pm8 an8 cd8 ct8), sl8⟩) (c8 : PySem.W.codeIn K cd8 "greatest_divisor" = true) (k8 : PySem.W.keepIn K (.ref f8) = true)
    {f9 : Addr} {od9 an9 : Option Addr} {sl9 : Array (Option Value)} {oc9 kV9 dc9 pm9 cd9 ct9 : Value}
    (a9 : PySem.W.nsIn K mainGlobals "leap" = some (some (.ref f9))) (l9 : K.lookup f9 = some ⟨oc9, od9, .func (PySem.W.fnOf "leap" "leap" (defArgs s_leap) (defBody s_leap) (defScope s_leap) .none kV9 dc9 pm9 an9 cd9 ct9), sl9⟩) (c9 : PySem.W.codeIn K cd9 "leap" = true) (k9 : PySem.W.keepIn K (.ref f9) = true)
    {f10 : Addr} {od10 an10 : Option Addr} {sl10 : Array (Option Value)} {oc10 kV10 dc10 pm10 cd10 ct10 : Value}
    (a10 : PySem.W.nsIn K mainGlobals "ratio" = some (some (.ref f10))) (l10 : K.lookup f10 = some ⟨oc10, od10, .func (PySem.W.fnOf "ratio" "ratio" (defArgs s_ratio) (defBody s_ratio) (defScope s_ratio) .none kV10 dc10 pm10 an10 cd10 ct10), sl10⟩) (c10 : PySem.W.codeIn K cd10 "ratio" = true) (k10 : PySem.W.keepIn K (.ref f10) = true)
    {f11 : Addr} {od11 an11 : Option Addr} {sl11 : Array (Option Value)} {oc11 kV11 dc11 pm11 cd11 ct11 : Value}
    (a11 : PySem.W.nsIn K mainGlobals "check_shares" = some (some (.ref f11))) (l11 : K.lookup f11 = some ⟨oc11, od11, .func (PySem.W.fnOf "check_shares" "check_shares" (defArgs s_check_shares) (defBody s_check_shares) (defScope s_check_shares) .none kV11 dc11 pm11 an11 cd11 ct11), sl11⟩) (c11 : PySem.W.codeIn K cd11 "check_shares" = true) (k11 : PySem.W.keepIn K (.ref f11) = true)
    {f12 : Addr} {od12 an12 : Option Addr} {sl12 : Array (Option Value)} {oc12 kV12 dc12 pm12 cd12 ct12 : Value}
    (a12 : PySem.W.nsIn K mainGlobals "often" = some (some (.ref f12))) (l12 : K.lookup f12 = some ⟨oc12, od12, .func (PySem.W.fnOf "often" "often" (defArgs s_often) (defBody s_often) (defScope s_often) .none kV12 dc12 pm12 an12 cd12 ct12), sl12⟩) (c12 : PySem.W.codeIn K cd12 "often" = true) (k12 : PySem.W.keepIn K (.ref f12) = true)
    {f13 : Addr} {od13 an13 : Option Addr} {sl13 : Array (Option Value)} {oc13 kV13 dc13 pm13 cd13 ct13 : Value}
    (a13 : PySem.W.nsIn K mainGlobals "_law_cell" = some (some (.ref f13))) (l13 : K.lookup f13 = some ⟨oc13, od13, .func (PySem.W.fnOf "_law_cell" "_law_cell" (defArgs s_law_cell) (defBody s_law_cell) (defScope s_law_cell) .none kV13 dc13 pm13 an13 cd13 ct13), sl13⟩) (c13 : PySem.W.codeIn K cd13 "_law_cell" = true) (k13 : PySem.W.keepIn K (.ref f13) = true)
    {f14 : Addr} {od14 an14 : Option Addr} {sl14 : Array (Option Value)} {oc14 kV14 dc14 pm14 cd14 ct14 : Value}
    (a14 : PySem.W.nsIn K mainGlobals "_law_whole" = some (some (.ref f14))) (l14 : K.lookup f14 = some ⟨oc14, od14, .func (PySem.W.fnOf "_law_whole" "_law_whole" (defArgs s_law_whole) (defBody s_law_whole) (defScope s_law_whole) .none kV14 dc14 pm14 an14 cd14 ct14), sl14⟩) (c14 : PySem.W.codeIn K cd14 "_law_whole" = true) (k14 : PySem.W.keepIn K (.ref f14) = true)
    {f15 : Addr} {od15 an15 : Option Addr} {sl15 : Array (Option Value)} {oc15 kV15 dc15 pm15 cd15 ct15 : Value}
    (a15 : PySem.W.nsIn K mainGlobals "_law_divisor" = some (some (.ref f15))) (l15 : K.lookup f15 = some ⟨oc15, od15, .func (PySem.W.fnOf "_law_divisor" "_law_divisor" (defArgs s_law_divisor) (defBody s_law_divisor) (defScope s_law_divisor) .none kV15 dc15 pm15 an15 cd15 ct15), sl15⟩) (c15 : PySem.W.codeIn K cd15 "_law_divisor" = true) (k15 : PySem.W.keepIn K (.ref f15) = true)
    {f16 : Addr} {od16 an16 : Option Addr} {sl16 : Array (Option Value)} {oc16 kV16 dc16 pm16 cd16 ct16 : Value}
    (a16 : PySem.W.nsIn K mainGlobals "_law_is_frac" = some (some (.ref f16))) (l16 : K.lookup f16 = some ⟨oc16, od16, .func (PySem.W.fnOf "_law_is_frac" "_law_is_frac" (defArgs s_law_is_frac) (defBody s_law_is_frac) (defScope s_law_is_frac) .none kV16 dc16 pm16 an16 cd16 ct16), sl16⟩) (c16 : PySem.W.codeIn K cd16 "_law_is_frac" = true) (k16 : PySem.W.keepIn K (.ref f16) = true)
    {f17 : Addr} {od17 an17 : Option Addr} {sl17 : Array (Option Value)} {oc17 kV17 dc17 pm17 cd17 ct17 : Value}
    (a17 : PySem.W.nsIn K mainGlobals "_law_shares" = some (some (.ref f17))) (l17 : K.lookup f17 = some ⟨oc17, od17, .func (PySem.W.fnOf "_law_shares" "_law_shares" (defArgs s_law_shares) (defBody s_law_shares) (defScope s_law_shares) .none kV17 dc17 pm17 an17 cd17 ct17), sl17⟩) (c17 : PySem.W.codeIn K cd17 "_law_shares" = true) (k17 : PySem.W.keepIn K (.ref f17) = true)
    {f18 : Addr} {od18 an18 : Option Addr} {sl18 : Array (Option Value)} {oc18 kV18 dc18 pm18 cd18 ct18 : Value}
    (a18 : PySem.W.nsIn K mainGlobals "_law_made" = some (some (.ref f18))) (l18 : K.lookup f18 = some ⟨oc18, od18, .func (PySem.W.fnOf "_law_made" "_law_made" (defArgs s_law_made) (defBody s_law_made) (defScope s_law_made) .none kV18 dc18 pm18 an18 cd18 ct18), sl18⟩) (c18 : PySem.W.codeIn K cd18 "_law_made" = true) (k18 : PySem.W.keepIn K (.ref f18) = true)
    {f19 : Addr} {od19 an19 : Option Addr} {sl19 : Array (Option Value)} {oc19 kV19 dc19 pm19 cd19 ct19 : Value}
    (a19 : PySem.W.nsIn K mainGlobals "_law_times" = some (some (.ref f19))) (l19 : K.lookup f19 = some ⟨oc19, od19, .func (PySem.W.fnOf "_law_times" "_law_times" (defArgs s_law_times) (defBody s_law_times) (defScope s_law_times) .none kV19 dc19 pm19 an19 cd19 ct19), sl19⟩) (c19 : PySem.W.codeIn K cd19 "_law_times" = true) (k19 : PySem.W.keepIn K (.ref f19) = true)
    {f20 : Addr} {od20 an20 : Option Addr} {sl20 : Array (Option Value)} {oc20 kV20 dc20 pm20 cd20 ct20 : Value}
    (a20 : PySem.W.nsIn K mainGlobals "_law_weight" = some (some (.ref f20))) (l20 : K.lookup f20 = some ⟨oc20, od20, .func (PySem.W.fnOf "_law_weight" "_law_weight" (defArgs s_law_weight) (defBody s_law_weight) (defScope s_law_weight) .none kV20 dc20 pm20 an20 cd20 ct20), sl20⟩) (c20 : PySem.W.codeIn K cd20 "_law_weight" = true) (k20 : PySem.W.keepIn K (.ref f20) = true)
    {f21 : Addr} {od21 an21 : Option Addr} {sl21 : Array (Option Value)} {oc21 kV21 dc21 pm21 cd21 ct21 : Value}
    (a21 : PySem.W.nsIn K mainGlobals "_law_under" = some (some (.ref f21))) (l21 : K.lookup f21 = some ⟨oc21, od21, .func (PySem.W.fnOf "_law_under" "_law_under" (defArgs s_law_under) (defBody s_law_under) (defScope s_law_under) .none kV21 dc21 pm21 an21 cd21 ct21), sl21⟩) (c21 : PySem.W.codeIn K cd21 "_law_under" = true) (k21 : PySem.W.keepIn K (.ref f21) = true)
    {f22 : Addr} {od22 an22 : Option Addr} {sl22 : Array (Option Value)} {oc22 kV22 dc22 pm22 cd22 ct22 : Value}
    (a22 : PySem.W.nsIn K mainGlobals "_law_asked" = some (some (.ref f22))) (l22 : K.lookup f22 = some ⟨oc22, od22, .func (PySem.W.fnOf "_law_asked" "_law_asked" (defArgs s_law_asked) (defBody s_law_asked) (defScope s_law_asked) .none kV22 dc22 pm22 an22 cd22 ct22), sl22⟩) (c22 : PySem.W.codeIn K cd22 "_law_asked" = true) (k22 : PySem.W.keepIn K (.ref f22) = true)
    {f23 : Addr} {od23 an23 : Option Addr} {sl23 : Array (Option Value)} {oc23 kV23 dc23 pm23 cd23 ct23 : Value}
    (a23 : PySem.W.nsIn K mainGlobals "law" = some (some (.ref f23))) (l23 : K.lookup f23 = some ⟨oc23, od23, .func (PySem.W.fnOf "law" "law" (defArgs s_law) (defBody s_law) (defScope s_law) .none kV23 dc23 pm23 an23 cd23 ct23), sl23⟩) (c23 : PySem.W.codeIn K cd23 "law" = true) (k23 : PySem.W.keepIn K (.ref f23) = true)
    {tLONG : Tok} (aLONG : PySem.W.nsIn K mainGlobals "LONG" = some (some (.int 4000 tLONG)))
    {tWINDOW : Tok} (aWINDOW : PySem.W.nsIn K mainGlobals "WINDOW" = some (some (.int 240 tWINDOW)))
    {tSHED : Tok} (aSHED : PySem.W.nsIn K mainGlobals "SHED" = some (some (.int 120 tSHED)))
    {pNOUGHT : Addr} {odNOUGHT : Option Addr} {slNOUGHT : Array (Option Value)} {nNOUGHT : Nat} {tNOUGHT0 tNOUGHT1 : Tok} (aNOUGHT : PySem.W.nsIn K mainGlobals "NOUGHT" = some (some (.ref pNOUGHT))) (lNOUGHT : K.lookup pNOUGHT = some ⟨.type "tuple", odNOUGHT, .seq #[.int (0) tNOUGHT0, .int (1) tNOUGHT1] nNOUGHT, slNOUGHT⟩)
    {pWHOLE : Addr} {odWHOLE : Option Addr} {slWHOLE : Array (Option Value)} {nWHOLE : Nat} {tWHOLE0 tWHOLE1 : Tok} (aWHOLE : PySem.W.nsIn K mainGlobals "WHOLE" = some (some (.ref pWHOLE))) (lWHOLE : K.lookup pWHOLE = some ⟨.type "tuple", odWHOLE, .seq #[.int (1) tWHOLE0, .int (1) tWHOLE1] nWHOLE, slWHOLE⟩)
    (z_len : PySem.W.nsIn K mainGlobals "len" = some none)
    (z_range : PySem.W.nsIn K mainGlobals "range" = some none)
    (z_isinstance : PySem.W.nsIn K mainGlobals "isinstance" = some none)
    (z_max : PySem.W.nsIn K mainGlobals "max" = some none)
    (z_min : PySem.W.nsIn K mainGlobals "min" = some none)
    (z_int : PySem.W.nsIn K mainGlobals "int" = some none)
    (z_bool : PySem.W.nsIn K mainGlobals "bool" = some none)
    (z_tuple : PySem.W.nsIn K mainGlobals "tuple" = some none)
    (z_list : PySem.W.nsIn K mainGlobals "list" = some none)
    (z_abs : PySem.W.nsIn K mainGlobals "abs" = some none)
    (z_str : PySem.W.nsIn K mainGlobals "str" = some none)
    (z_sum : PySem.W.nsIn K mainGlobals "sum" = some none)
    (z_sorted : PySem.W.nsIn K mainGlobals "sorted" = some none)
    (z_reversed : PySem.W.nsIn K mainGlobals "reversed" = some none)
    (z_enumerate : PySem.W.nsIn K mainGlobals "enumerate" = some none)
    (z_set : PySem.W.nsIn K mainGlobals "set" = some none)
    (z_all : PySem.W.nsIn K mainGlobals "all" = some none)
    (z_zip : PySem.W.nsIn K mainGlobals "zip" = some none)
    (z_any : PySem.W.nsIn K mainGlobals "any" = some none)
    (ct : cstTab = [(pNOUGHT, [V.int (0), V.int (1)]), (pWHOLE, [V.int (1), V.int (1)])])
    (ne1_0 : pWHOLE ≠ pNOUGHT)
    : CstOk K ∧ ∃ fd : FuncData, (∀ (s : Shared) (v : Value), BindsTo s fd ⟨[v], []⟩ [("_law_script", v)]) ∧ ∀ base : Heap, (offC K).In base → base.Ns mainGlobals mg → FnOk l.prog w (offC K) mg base CX0 9 fa fd ["_law_script"] (spD (offC K) 1 G_law) := by
  have e := hfa.symm.trans (PySem.W.mg_of X G a23)
  cases e
  have C : CstOk K := ⟨(fun p xs m => by have bq1_0 := beq_eq_false_iff_ne.mpr ne1_0; rw [ct] at m ⊢; simp only [List.mem_cons, List.not_mem_nil, or_false, Prod.mk.injEq] at m; rcases m with ⟨rfl, rfl⟩ | ⟨rfl, rfl⟩ <;> simp [List.lookup_cons, *]), (fun p xs m => by have m := lk_mem m; rw [ct] at m; simp only [List.mem_cons, List.not_mem_nil, or_false, Prod.mk.injEq] at m; rcases m with ⟨rfl, rfl⟩ | ⟨rfl, rfl⟩ <;> first | exact ⟨_, _, _, _, lNOUGHT, (by show 2 ≤ sizeLine; decide), (.cons ⟨_, rfl⟩ (.cons ⟨_, rfl⟩ .nil))⟩ | exact ⟨_, _, _, _, lWHOLE, (by show 2 ≤ sizeLine; decide), (.cons ⟨_, rfl⟩ (.cons ⟨_, rfl⟩ .nil))⟩)⟩
  have d_frac : Df (offC K) mg "frac" s_frac ["top", "bottom"] := ⟨_, _, (C.func (fun_mk (st := s_frac) l1 c1 k1)), PySem.W.mg_of X G a1, (C.func (fun_mk (st := s_frac) l1 c1 k1)).binds fun _ _ _ _ _ _ us hl => match us, hl with | [_, _], _ => rfl⟩
  have d_plus : Df (offC K) mg "plus" s_plus ["one", "other"] := ⟨_, _, (C.func (fun_mk (st := s_plus) l2 c2 k2)), PySem.W.mg_of X G a2, (C.func (fun_mk (st := s_plus) l2 c2 k2)).binds fun _ _ _ _ _ _ us hl => match us, hl with | [_, _], _ => rfl⟩
  have d_minus : Df (offC K) mg "minus" s_minus ["one", "other"] := ⟨_, _, (C.func (fun_mk (st := s_minus) l3 c3 k3)), PySem.W.mg_of X G a3, (C.func (fun_mk (st := s_minus) l3 c3 k3)).binds fun _ _ _ _ _ _ us hl => match us, hl with | [_, _], _ => rfl⟩
  have d_times : Df (offC K) mg "times" s_times ["one", "other"] := ⟨_, _, (C.func (fun_mk (st := s_times) l4 c4 k4)), PySem.W.mg_of X G a4, (C.func (fun_mk (st := s_times) l4 c4 k4)).binds fun _ _ _ _ _ _ us hl => match us, hl with | [_, _], _ => rfl⟩
  have d_over : Df (offC K) mg "over" s_over ["one", "other"] := ⟨_, _, (C.func (fun_mk (st := s_over) l5 c5 k5)), PySem.W.mg_of X G a5, (C.func (fun_mk (st := s_over) l5 c5 k5)).binds fun _ _ _ _ _ _ us hl => match us, hl with | [_, _], _ => rfl⟩
  have d_power : Df (offC K) mg "power" s_power ["one", "many"] := ⟨_, _, (C.func (fun_mk (st := s_power) l6 c6 k6)), PySem.W.mg_of X G a6, (C.func (fun_mk (st := s_power) l6 c6 k6)).binds fun _ _ _ _ _ _ us hl => match us, hl with | [_, _], _ => rfl⟩
  have d_under : Df (offC K) mg "under" s_under ["one", "other"] := ⟨_, _, (C.func (fun_mk (st := s_under) l7 c7 k7)), PySem.W.mg_of X G a7, (C.func (fun_mk (st := s_under) l7 c7 k7)).binds fun _ _ _ _ _ _ us hl => match us, hl with | [_, _], _ => rfl⟩
  have d_greatest_divisor : Df (offC K) mg "greatest_divisor" s_greatest_divisor ["one", "other"] := ⟨_, _, (C.func (fun_mk (st := s_greatest_divisor) l8 c8 k8)), PySem.W.mg_of X G a8, (C.func (fun_mk (st := s_greatest_divisor) l8 c8 k8)).binds fun _ _ _ _ _ _ us hl => match us, hl with | [_, _], _ => rfl⟩
  have d_leap : Df (offC K) mg "leap" s_leap ["one", "other"] := ⟨_, _, (C.func (fun_mk (st := s_leap) l9 c9 k9)), PySem.W.mg_of X G a9, (C.func (fun_mk (st := s_leap) l9 c9 k9)).binds fun _ _ _ _ _ _ us hl => match us, hl with | [_, _], _ => rfl⟩
  have d_ratio : Df (offC K) mg "ratio" s_ratio ["count", "low", "high"] := ⟨_, _, (C.func (fun_mk (st := s_ratio) l10 c10 k10)), PySem.W.mg_of X G a10, (C.func (fun_mk (st := s_ratio) l10 c10 k10)).binds fun _ _ _ _ _ _ us hl => match us, hl with | [_, _, _], _ => rfl⟩
  have d_check_shares : Df (offC K) mg "check_shares" s_check_shares ["low", "high"] := ⟨_, _, (C.func (fun_mk (st := s_check_shares) l11 c11 k11)), PySem.W.mg_of X G a11, (C.func (fun_mk (st := s_check_shares) l11 c11 k11)).binds fun _ _ _ _ _ _ us hl => match us, hl with | [_, _], _ => rfl⟩
  have d_often : Df (offC K) mg "often" s_often ["count", "share"] := ⟨_, _, (C.func (fun_mk (st := s_often) l12 c12 k12)), PySem.W.mg_of X G a12, (C.func (fun_mk (st := s_often) l12 c12 k12)).binds fun _ _ _ _ _ _ us hl => match us, hl with | [_, _], _ => rfl⟩
  have d_law_cell : Df (offC K) mg "_law_cell" s_law_cell ["_law_script", "_law_k"] := ⟨_, _, (C.func (fun_mk (st := s_law_cell) l13 c13 k13)), PySem.W.mg_of X G a13, (C.func (fun_mk (st := s_law_cell) l13 c13 k13)).binds fun _ _ _ _ _ _ us hl => match us, hl with | [_, _], _ => rfl⟩
  have d_law_whole : Df (offC K) mg "_law_whole" s_law_whole ["_law_found"] := ⟨_, _, (C.func (fun_mk (st := s_law_whole) l14 c14 k14)), PySem.W.mg_of X G a14, (C.func (fun_mk (st := s_law_whole) l14 c14 k14)).binds fun _ _ _ _ _ _ us hl => match us, hl with | [_], _ => rfl⟩
  have d_law_divisor : Df (offC K) mg "_law_divisor" s_law_divisor ["_law_one", "_law_other"] := ⟨_, _, (C.func (fun_mk (st := s_law_divisor) l15 c15 k15)), PySem.W.mg_of X G a15, (C.func (fun_mk (st := s_law_divisor) l15 c15 k15)).binds fun _ _ _ _ _ _ us hl => match us, hl with | [_, _], _ => rfl⟩
  have d_law_is_frac : Df (offC K) mg "_law_is_frac" s_law_is_frac ["_law_found", "_law_top", "_law_bottom"] := ⟨_, _, (C.func (fun_mk (st := s_law_is_frac) l16 c16 k16)), PySem.W.mg_of X G a16, (C.func (fun_mk (st := s_law_is_frac) l16 c16 k16)).binds fun _ _ _ _ _ _ us hl => match us, hl with | [_, _, _], _ => rfl⟩
  have d_law_shares : Df (offC K) mg "_law_shares" s_law_shares ["_law_cell_here"] := ⟨_, _, (C.func (fun_mk (st := s_law_shares) l17 c17 k17)), PySem.W.mg_of X G a17, (C.func (fun_mk (st := s_law_shares) l17 c17 k17)).binds fun _ _ _ _ _ _ us hl => match us, hl with | [_], _ => rfl⟩
  have d_law_made : Df (offC K) mg "_law_made" s_law_made ["_law_top", "_law_bottom"] := ⟨_, _, (C.func (fun_mk (st := s_law_made) l18 c18 k18)), PySem.W.mg_of X G a18, (C.func (fun_mk (st := s_law_made) l18 c18 k18)).binds fun _ _ _ _ _ _ us hl => match us, hl with | [_, _], _ => rfl⟩
  have d_law_times : Df (offC K) mg "_law_times" s_law_times ["_law_base", "_law_many"] := ⟨_, _, (C.func (fun_mk (st := s_law_times) l19 c19 k19)), PySem.W.mg_of X G a19, (C.func (fun_mk (st := s_law_times) l19 c19 k19)).binds fun _ _ _ _ _ _ us hl => match us, hl with | [_, _], _ => rfl⟩
  have d_law_weight : Df (offC K) mg "_law_weight" s_law_weight ["_law_count", "_law_top", "_law_bottom"] := ⟨_, _, (C.func (fun_mk (st := s_law_weight) l20 c20 k20)), PySem.W.mg_of X G a20, (C.func (fun_mk (st := s_law_weight) l20 c20 k20)).binds fun _ _ _ _ _ _ us hl => match us, hl with | [_, _, _], _ => rfl⟩
  have d_law_under : Df (offC K) mg "_law_under" s_law_under ["_law_one", "_law_other"] := ⟨_, _, (C.func (fun_mk (st := s_law_under) l21 c21 k21)), PySem.W.mg_of X G a21, (C.func (fun_mk (st := s_law_under) l21 c21 k21)).binds fun _ _ _ _ _ _ us hl => match us, hl with | [_, _], _ => rfl⟩
  have d_law_asked : Df (offC K) mg "_law_asked" s_law_asked ["_law_both", "_law_bad", "_law_good"] := ⟨_, _, (C.func (fun_mk (st := s_law_asked) l22 c22 k22)), PySem.W.mg_of X G a22, (C.func (fun_mk (st := s_law_asked) l22 c22 k22)).binds fun _ _ _ _ _ _ us hl => match us, hl with | [_, _, _], _ => rfl⟩
  have d_law : Df (offC K) mg "law" s_law ["_law_script"] := ⟨_, _, (C.func (fun_mk (st := s_law) l23 c23 k23)), PySem.W.mg_of X G a23, (C.func (fun_mk (st := s_law) l23 c23 k23)).binds fun _ _ _ _ _ _ us hl => match us, hl with | [_], _ => rfl⟩
  have C_LONG : Cn mg "LONG" (.int 4000) := ⟨_, PySem.W.mg_of X G aLONG, ⟨_, rfl⟩⟩
  have C_WINDOW : Cn mg "WINDOW" (.int 240) := ⟨_, PySem.W.mg_of X G aWINDOW, ⟨_, rfl⟩⟩
  have C_SHED : Cn mg "SHED" (.int 120) := ⟨_, PySem.W.mg_of X G aSHED, ⟨_, rfl⟩⟩
  have C_NOUGHT : Cn mg "NOUGHT" (.ref pNOUGHT) := ⟨_, PySem.W.mg_of X G aNOUGHT, rfl⟩
  have M_NOUGHT : (pNOUGHT, [V.int (0), V.int (1)]) ∈ cstTab := by rw [ct]; simp
  have C_WHOLE : Cn mg "WHOLE" (.ref pWHOLE) := ⟨_, PySem.W.mg_of X G aWHOLE, rfl⟩
  have M_WHOLE : (pWHOLE, [V.int (1), V.int (1)]) ∈ cstTab := by rw [ct]; simp
  have B : Bs mg := ⟨PySem.W.mg_none_of X G z_len, PySem.W.mg_none_of X G z_range, PySem.W.mg_none_of X G z_isinstance, PySem.W.mg_none_of X G z_max, PySem.W.mg_none_of X G z_min, PySem.W.mg_none_of X G z_int, PySem.W.mg_none_of X G z_bool, PySem.W.mg_none_of X G z_tuple, PySem.W.mg_none_of X G z_list, PySem.W.mg_none_of X G z_abs, PySem.W.mg_none_of X G z_str, PySem.W.mg_none_of X G z_sum, PySem.W.mg_none_of X G z_sorted, PySem.W.mg_none_of X G z_reversed, PySem.W.mg_none_of X G z_enumerate, PySem.W.mg_none_of X G z_set, PySem.W.mg_none_of X G z_all, PySem.W.mg_none_of X G z_zip, PySem.W.mg_none_of X G z_any⟩
  refine ⟨C, PySem.W.fnOf "law" "law" (defArgs s_law) (defBody s_law) (defScope s_law) .none kV23 dc23 pm23 an23 cd23 ct23, fun s v => .of_eq rfl, fun base _ _ => ?_⟩
  have D_leap := ok_leap (P := l.prog) (w := w) (base := base) d_leap B C_WINDOW C_SHED
  have D_greatest_divisor := ok_greatest_divisor (P := l.prog) (w := w) (base := base) d_greatest_divisor B C_LONG D_leap
  have D_frac := ok_frac (P := l.prog) (w := w) (base := base) d_frac B D_greatest_divisor
  have D_plus := ok_plus (P := l.prog) (w := w) (base := base) d_plus B D_frac D_greatest_divisor
  have D_minus := ok_minus (P := l.prog) (w := w) (base := base) d_minus B D_plus
  have D_times := ok_times (P := l.prog) (w := w) (base := base) d_times B D_frac
  have D_over := ok_over (P := l.prog) (w := w) (base := base) d_over B D_frac D_times
  have D_power := ok_power (P := l.prog) (w := w) (base := base) d_power B
  have D_under := ok_under (P := l.prog) (w := w) (base := base) d_under B
  have D_check_shares := ok_check_shares (P := l.prog) (w := w) (base := base) d_check_shares B C_NOUGHT M_NOUGHT C_WHOLE M_WHOLE D_under
  have D_often := ok_often (P := l.prog) (w := w) (base := base) d_often B C_WHOLE M_WHOLE D_minus D_power
  have D_ratio := ok_ratio (P := l.prog) (w := w) (base := base) d_ratio B D_check_shares D_often D_over
  have D_law_cell := ok_law_cell (P := l.prog) (w := w) (base := base) d_law_cell B
  have D_law_whole := ok_law_whole (P := l.prog) (w := w) (base := base) d_law_whole B
  have D_law_divisor := ok_law_divisor (P := l.prog) (w := w) (base := base) d_law_divisor B
  have D_law_is_frac := ok_law_is_frac (P := l.prog) (w := w) (base := base) d_law_is_frac B D_law_divisor D_law_whole
  have D_law_shares := ok_law_shares (P := l.prog) (w := w) (base := base) d_law_shares B
  have D_law_made := ok_law_made (P := l.prog) (w := w) (base := base) d_law_made B D_law_divisor
  have D_law_times := ok_law_times (P := l.prog) (w := w) (base := base) d_law_times B
  have D_law_weight := ok_law_weight (P := l.prog) (w := w) (base := base) d_law_weight B D_law_times
  have D_law_under := ok_law_under (P := l.prog) (w := w) (base := base) d_law_under B
  have D_law_asked := ok_law_asked (P := l.prog) (w := w) (base := base) d_law_asked B D_law_is_frac D_law_made D_law_under D_law_weight D_ratio
  exact ok_law (P := l.prog) (w := w) (base := base) (C.func (fun_mk (st := s_law) l23 c23 k23)) B D_law_asked D_law_cell D_law_shares
theorem walk {l : PySem.W.OpenLaw} {q : Program} {loose : List Str} {XP : (Str → Option Value) → Heap → Prop} {YP : World → Heap → Prop} {d : DefRec} {K : Params → PySem.W.Frag} (hn : l.most = some 63) (hdf : d.params.defaults = [])
    (hY : ∀ (w : World) (h : Heap), YP w h → (K w.params).In h)
    (F : ∀ (w : World) (mg : Str → Option Value) (fa : Addr) (h : Heap), (K w.params).In h → h.Ns mainGlobals mg → mg d.name = some (.ref fa) →
      CstOk (K w.params) ∧ ∃ fd : FuncData, (∀ (s : Shared) (u : Value), BindsTo s fd ⟨[u], []⟩ [("_law_script", u)]) ∧ ∀ base : Heap, (offC (K w.params)).In base → base.Ns mainGlobals mg → FnOk l.prog w (offC (K w.params)) mg base CX0 9 fa fd ["_law_script"] (spD (offC (K w.params)) 1 G_law)) :
    PySem.W.WalkO q loose XP YP l.row.toRowW d [] (fun f vs => PySem.call f vs) :=
  L2.walk_ofC (n := 63) (k := 9) (x := "_law_script") (CX := fun _ => CX0) (sp := fun w => spD (offC (K w.params)) 1 G_law) hn (by decide) hdf ⟨rfl, by decide, by decide⟩ hY F (fun _ _ a ns hl hS hT => ⟨rfl, [], [.list (ns.map PyData.int)], .bool true, ⟨fun _ z => by simp at z, hT⟩, by rw [wo_nil]; exact .cons (.lst hS (HDs.ints ns)) .nil, law_true ns hl, fun v H' _ h => by cases h; rfl⟩) fun _ _ _ _ _ z => z
end MyLaw
open PySem PySem.W PyProof.Rows
set_option maxRecDepth 100000 in
set_option maxHeartbeats 0 in
theorem PySem.Challenge.cw_lotdraw_k46_ratios_holds : PySem.Challenge.rw_lotdraw_k46_ratios.Holds := by
  w_on; o_law; k_head; (case hw => w_witness2)
  k_fill
  refine MyLaw.walk (l := PySem.Challenge.rw_lotdraw_k46_ratios) rfl rfl (fun w h Y => PySem.W.kIn_of Y) ?F
  case F =>
    intro w mg fa h KX G hmg
    refine' MyLaw.all_mk KX G hmg ?a1 ?l1 ?c1 ?k1 ?a2 ?l2 ?c2 ?k2 ?a3 ?l3 ?c3 ?k3 ?a4 ?l4 ?c4 ?k4 ?a5 ?l5 ?c5 ?k5 ?a6 ?l6 ?c6 ?k6 ?a7 ?l7 ?c7 ?k7 ?a8 ?l8 ?c8 ?k8 ?a9 ?l9 ?c9 ?k9 ?a10 ?l10 ?c10 ?k10 ?a11 ?l11 ?c11 ?k11 ?a12 ?l12 ?c12 ?k12 ?a13 ?l13 ?c13 ?k13 ?a14 ?l14 ?c14 ?k14 ?a15 ?l15 ?c15 ?k15 ?a16 ?l16 ?c16 ?k16 ?a17 ?l17 ?c17 ?k17 ?a18 ?l18 ?c18 ?k18 ?a19 ?l19 ?c19 ?k19 ?a20 ?l20 ?c20 ?k20 ?a21 ?l21 ?c21 ?k21 ?a22 ?l22 ?c22 ?k22 ?a23 ?l23 ?c23 ?k23 ?aLONG ?aWINDOW ?aSHED ?aNOUGHT ?lNOUGHT ?aWHOLE ?lWHOLE ?z_len ?z_range ?z_isinstance ?z_max ?z_min ?z_int ?z_bool ?z_tuple ?z_list ?z_abs ?z_str ?z_sum ?z_sorted ?z_reversed ?z_enumerate ?z_set ?z_all ?z_zip ?z_any ?ct ?ne1_0
    (case a1 => k_is)
    (case l1 => k_is)
    (case c1 => k_is)
    (case k1 => k_is)
    (case a2 => k_is)
    (case l2 => k_is)
    (case c2 => k_is)
    (case k2 => k_is)
    (case a3 => k_is)
    (case l3 => k_is)
    (case c3 => k_is)
    (case k3 => k_is)
    (case a4 => k_is)
    (case l4 => k_is)
    (case c4 => k_is)
    (case k4 => k_is)
    (case a5 => k_is)
    (case l5 => k_is)
    (case c5 => k_is)
    (case k5 => k_is)
    (case a6 => k_is)
    (case l6 => k_is)
    (case c6 => k_is)
    (case k6 => k_is)
    (case a7 => k_is)
    (case l7 => k_is)
    (case c7 => k_is)
    (case k7 => k_is)
    (case a8 => k_is)
    (case l8 => k_is)
    (case c8 => k_is)
    (case k8 => k_is)
    (case a9 => k_is)
    (case l9 => k_is)
    (case c9 => k_is)
    (case k9 => k_is)
    (case a10 => k_is)
    (case l10 => k_is)
    (case c10 => k_is)
    (case k10 => k_is)
    (case a11 => k_is)
    (case l11 => k_is)
    (case c11 => k_is)
    (case k11 => k_is)
    (case a12 => k_is)
    (case l12 => k_is)
    (case c12 => k_is)
    (case k12 => k_is)
    (case a13 => k_is)
    (case l13 => k_is)
    (case c13 => k_is)
    (case k13 => k_is)
    (case a14 => k_is)
    (case l14 => k_is)
    (case c14 => k_is)
    (case k14 => k_is)
    (case a15 => k_is)
    (case l15 => k_is)
    (case c15 => k_is)
    (case k15 => k_is)
    (case a16 => k_is)
    (case l16 => k_is)
    (case c16 => k_is)
    (case k16 => k_is)
    (case a17 => k_is)
    (case l17 => k_is)
    (case c17 => k_is)
    (case k17 => k_is)
    (case a18 => k_is)
    (case l18 => k_is)
    (case c18 => k_is)
    (case k18 => k_is)
    (case a19 => k_is)
    (case l19 => k_is)
    (case c19 => k_is)
    (case k19 => k_is)
    (case a20 => k_is)
    (case l20 => k_is)
    (case c20 => k_is)
    (case k20 => k_is)
    (case a21 => k_is)
    (case l21 => k_is)
    (case c21 => k_is)
    (case k21 => k_is)
    (case a22 => k_is)
    (case l22 => k_is)
    (case c22 => k_is)
    (case k22 => k_is)
    (case a23 => k_is)
    (case l23 => k_is)
    (case c23 => k_is)
    (case k23 => k_is)
    (case aLONG => k_is)
    (case aWINDOW => k_is)
    (case aSHED => k_is)
    (case aNOUGHT => k_is)
    (case lNOUGHT => k_is)
    (case aWHOLE => k_is)
    (case lWHOLE => k_is)
    (case z_len => kernel_rfl)
    (case z_range => kernel_rfl)
    (case z_isinstance => kernel_rfl)
    (case z_max => kernel_rfl)
    (case z_min => kernel_rfl)
    (case z_int => kernel_rfl)
    (case z_bool => kernel_rfl)
    (case z_tuple => kernel_rfl)
    (case z_list => kernel_rfl)
    (case z_abs => kernel_rfl)
    (case z_str => kernel_rfl)
    (case z_sum => kernel_rfl)
    (case z_sorted => kernel_rfl)
    (case z_reversed => kernel_rfl)
    (case z_enumerate => kernel_rfl)
    (case z_set => kernel_rfl)
    (case z_all => kernel_rfl)
    (case z_zip => kernel_rfl)
    (case z_any => kernel_rfl)
    (case ct => rfl)
    (case ne1_0 => decide)
