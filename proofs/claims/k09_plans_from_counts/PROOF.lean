import PyProof.Rows.All
import Wide.All
import OpenK.AllK
import Wide.FinOn
import Lean
import PyProof.EqAt
import PyProof.EqKinds
import PyProof.TupleCall
import PySem.Challenge.RW_lotdraw_k09_plans_from_counts
set_option Elab.async false
set_option linter.all false
set_option maxRecDepth 100000
set_option tactic.hygienic false
set_option compiler.extract_closed false
set_option backward.eqns.nonrecursive false
namespace L2
open PySem PySem.Spec PyProof.Rows
noncomputable abbrev Key := Sum Int Str
noncomputable def keyIs : Key -> Value -> Bool
 | .inl k, v => Value.isInt k v
 | .inr x, v => Value.isStrOf x v
noncomputable def keyH (w : World) : Key -> Int
 | .inl k => hashInt k
 | .inr x => hashStr w x
theorem keyIs_shape : ∀ {k : Key} {v : Value}, keyIs k v = true -> (∃ i t, k = Sum.inl i /\ v = Value.int i t) \/ (∃ x t, k = Sum.inr x /\ v = Value.str x t)
 | .inl i, v, h => by
   obtain ⟨t, e⟩ := Value.isInt_shape (k := i) (v := v) h
   exact .inl ⟨i, t, rfl, e⟩
 | .inr x, v, h => by
   obtain ⟨t, e⟩ := Value.isStrOf_shape (x := x) (v := v) h
   exact .inr ⟨x, t, rfl, e⟩
theorem keyIs_int (i : Int) (t : Tok) : keyIs (.inl i) (.int i t) = true := by simp [keyIs, Value.isInt]
theorem keyIs_str (x : Str) (t : Tok) : keyIs (.inr x) (.str x t) = true := by simp [keyIs, Value.isStrOf]
theorem key_ll (a b : Int) : decide ((Sum.inl a : Key) = Sum.inl b) = (a == b) := by
 by_cases e : a = b
 ·subst e; simp
 ·have h : ¬ (Sum.inl a : Key) = Sum.inl b := fun q => e (Sum.inl.inj q)
  rw [decide_eq_false h]
  exact (beq_eq_false_iff_ne.mpr e).symm
theorem key_rr (a b : Str) : decide ((Sum.inr a : Key) = Sum.inr b) = decide (a = b) := by
 by_cases e : a = b
 ·subst e; simp
 ·have h : ¬ (Sum.inr a : Key) = Sum.inr b := fun q => e (Sum.inr.inj q)
  rw [decide_eq_false h, decide_eq_false e]
theorem key_lr (a : Int) (b : Str) : decide ((Sum.inl a : Key) = Sum.inr b) = false := decide_eq_false (fun q => nomatch q)
theorem key_rl (a : Str) (b : Int) : decide ((Sum.inr a : Key) = Sum.inl b) = false := decide_eq_false (fun q => nomatch q)
noncomputable def mixKind (prog : Program) (w : World) : PySem.KeyKind prog w Key where
 is := keyIs
 hash := keyH w
 inj := fun v a b ha hb => by
  rcases keyIs_shape ha with ⟨i, t, rfl, rfl⟩ | ⟨x, t, rfl, rfl⟩
  ·rcases keyIs_shape hb with ⟨j, u, rfl, e⟩ | ⟨y, u, rfl, e⟩
   ·injection e with e1 _; rw [e1]
   ·exact nomatch e
  ·rcases keyIs_shape hb with ⟨j, u, rfl, e⟩ | ⟨y, u, rfl, e⟩
   ·exact nomatch e
   ·injection e with e1 _; rw [e1]
 byValue := fun k v h => by
  rcases keyIs_shape h with ⟨i, t, rfl, rfl⟩ | ⟨x, t, rfl, rfl⟩ <;> rfl
 pyHash := fun hv h => by
  rcases keyIs_shape hv with ⟨i, t, rfl, rfl⟩ | ⟨x, t, rfl, rfl⟩
  ·exact wpAny_pyHash_int h
  ·exact wpAny_pyHash_str h
 eqBool := fun hu hv h => by
  rcases keyIs_shape hu with ⟨i, t, rfl, rfl⟩ | ⟨x, t, rfl, rfl⟩
  ·rcases keyIs_shape hv with ⟨j, u, rfl, rfl⟩ | ⟨y, u, rfl, rfl⟩
   ·rw [key_ll] at h; exact wpAny_eqBool_int h
   ·rw [key_lr] at h; exact SeqAt.EqAt.int_str i t y u _ _ _ _ h
  ·rcases keyIs_shape hv with ⟨j, u, rfl, rfl⟩ | ⟨y, u, rfl, rfl⟩
   ·rw [key_rl] at h; exact SeqAt.EqAt.str_int x t j u _ _ _ _ h
   ·rw [key_rr] at h; exact wpAny_eqBool_str h
 «strs» := fun k x t v h => by
  rcases keyIs_shape h with ⟨i, u, rfl, e⟩ | ⟨y, u, rfl, e⟩
  ·exact nomatch e
  ·injection e with e1 _
   subst e1
   cases v <;> rfl
theorem mixKind_int (prog : Program) (w : World) (i : Int) (t : Tok) : (mixKind prog w).is (.inl i) (.int i t) = true := keyIs_int i t
theorem mixKind_str (prog : Program) (w : World) (x : Str) (t : Tok) : (mixKind prog w).is (.inr x) (.str x t) = true := keyIs_str x t
end L2
namespace L2
open PySem PySem.Spec PyProof.Rows
inductive V where
 | non | bl (b : Bool) | int (i : Int) | str (x : Str) | byt (b : Array UInt8) | flt (b : UInt64) | ref (a : Addr) | ty (n : String)
 deriving DecidableEq
noncomputable def RelV : V -> Value -> Prop
 | .non, u => u = Value.none
 | .bl b, u => u = Value.bool b
 | .int i, u => ∃ t, u = Value.int i t
 | .str x, u => ∃ t, u = Value.str x t
 | .byt b, u => ∃ t, u = Value.bytes b t
 | .flt b, u => ∃ t, u = Value.float b t
 | .ref a, u => u = Value.ref a
 | .ty n, u => u = Value.type n
noncomputable abbrev Vals : List V -> List Value -> Prop := Paired RelV
theorem Vals.length {xs : List V} {us : List Value} (r : Vals xs us) : xs.length = us.length := Paired.length r
theorem Vals.get : ∀ {xs : List V} {us : List Value} {i : Nat} {x : V}, Vals xs us -> xs[i]? = some x -> ∃ u, us[i]? = some u /\ RelV x u
 | _, _, _, _, .nil, e => by simp at e
 | _, _, 0, _, .cons r _, e => by simp at e; subst e; exact ⟨_, rfl, r⟩
 | _, _, i + 1, x, .cons _ t, e => by
   obtain ⟨u, h1, h2⟩ := Vals.get (i := i) (x := x) t (by simpa using e)
   exact ⟨u, by simpa using h1, h2⟩
theorem Vals.append : ∀ {xs ys : List V} {us ws : List Value}, Vals xs us -> Vals ys ws -> Vals (xs ++ ys) (us ++ ws) := by
 intro xs ys us ws h s
 induction h with
 | nil => exact s
 | cons r t ih => exact .cons r ih
theorem Vals.take : ∀ {xs : List V} {us : List Value} (n : Nat), Vals xs us -> Vals (xs.take n) (us.take n)
 | _, _, 0, _ => .nil
 | _, _, _ + 1, .nil => .nil
 | _, _, n + 1, .cons r t => .cons r (Vals.take n t)
theorem Vals.drop : ∀ {xs : List V} {us : List Value} (n : Nat), Vals xs us -> Vals (xs.drop n) (us.drop n)
 | _, _, 0, r => r
 | _, _, _ + 1, .nil => .nil
 | _, _, n + 1, .cons _ t => Vals.drop n t
noncomputable def RelO : Option V -> Option Value -> Prop
 | some v, some u => RelV v u
 | none, none => True
 | _, _ => False
noncomputable def KV {κ : Type} : List (κ × V) -> List (κ × Value) -> Prop := Paired fun (p : κ × V) (q : κ × Value) => p.1 = q.1 /\ RelV p.2 q.2
noncomputable def kV : Key -> V
 | .inl i => .int i
 | .inr x => .str x
inductive HO where
  | lst (xs : List V)
  | tup (xs : List V)
  | dK (kvs : List (Key × V)) | dT (kvs : List (List Key × V))
  | set (S : Int -> Bool) (n : Nat)
  | ins (C dx : Addr) (fs : List (Str × V))
  | own (x : Addr)
  | xd (fs : List (Str × V))
  | met (f x : Addr)
  | rng (lo hi : Int)
  | frz (o : Obj) (u : HO)
  | tbl (ps : Array Value)
 | lam (p : Pos) (q : Str) | code (q : Str)
   | ext (φ : Heap -> Prop)
noncomputable abbrev Hp := Addr -> Option HO
noncomputable def upd (H : Hp) (a : Addr) (o : HO) : Hp := fun b => if b = a then some o else H b
theorem upd_same {H : Hp} {a : Addr} {o : HO} : upd H a o a = some o := by unfold upd; rw [if_pos rfl]
theorem upd_ne {H : Hp} {a b : Addr} {o : HO} (h : b ≠ a) : upd H a o b = H b := by unfold upd; rw [if_neg h]
theorem ne_of_none {H : Hp} {a b : Addr} {o : HO} (h : H a = some o) (h' : H b = none) : a ≠ b := by
 intro e; subst e; rw [h] at h'; cases h'
noncomputable def TupT (H : Hp) (b : Addr) (xs : List V) : Prop := H b = some (.tup xs) \/ ∃ ob, H b = some (.frz ob (.tup xs))
theorem TupT.ne {H : Hp} {a b : Addr} {o : HO} {xs : List V} (t : TupT H b xs) (n : b ≠ a) : TupT (upd H a o) b xs := by
 rcases t with t | ⟨ob, t⟩
 ·exact .inl (by rw [upd_ne n]; exact t)
 ·exact .inr ⟨ob, by rw [upd_ne n]; exact t⟩
theorem TupT.new {H : Hp} {a b : Addr} {o : HO} {xs : List V} (t : TupT H b xs) (n : H a = none) : TupT (upd H a o) b xs := t.ne fun z => by
 subst z
 rcases t with t | ⟨ob, t⟩ <;> rw [n] at t <;> cases t
theorem TupT.dT {H : Hp} {a b : Addr} {o : HO} {xs : List V} {kvs : List (List Key × V)} (t : TupT H b xs) (e : H a = some (.dT kvs)) : TupT (upd H a o) b xs := t.ne fun z => by
 subst z
 rcases t with t | ⟨ob, t⟩ <;> rw [e] at t <;> cases t
section
variable (P : Program) (w : World)
noncomputable def ObjOk (H : Hp) (h : Heap) (a : Addr) : HO -> Prop
 | .lst xs => xs.length <= sizeLine /\ ∃ (its : List Value) (n : Nat), Vals xs its /\ h.get? a = some { cls := .type "list", data := .seq its.toArray n }
 | .tup xs => xs.length <= sizeLine /\ ∃ its : List Value, Vals xs its /\ IsTup h a its.toArray
 | .dK kvs => kvs.length <= sizeLine /\ (a == sysModules) = false /\ ∃ vs, KV kvs vs /\ h.DictOf (mixKind P w) a vs
 | .dT kvs => kvs.length <= sizeLine /\ (a == sysModules) = false /\ ∃ xs : List (List Key × Addr × Value),
   Paired (fun (p : List Key × V) (q : List Key × Addr × Value) => p.1 = q.1 /\ TupT H q.2.1 (p.1.map kV) /\ RelV p.2 q.2.2) kvs xs /\
   ∃ o es ep, h.get? a = some o /\ o.ExactDict /\ o.data = .dict es ep /\ es.toList = xs.map (entryOfKey (tupleKind (mixKind P w))) /\ (xs.map (·.1)).Nodup
 | .set S n => h.SetOf (intKind P w) a S n
 | .ins C dx fs => H dx = some (.own a) /\ fs.length <= 1000 /\ dx ≠ a /\ h.get? a = some (PySem.W.instObj C dx) /\
   ∃ mA, h.Ns1 dx mA /\ (∀ f, RelO (fs.lookup f) (mA f)) /\ PySem.Within mA (fs.map (·.1))
 | .own _ => ∃ o, h.get? a = some o
 | .xd fs => ∃ mA, h.Ns1 a mA /\ ∀ f, RelO (fs.lookup f) (mA f)
 | .rng lo hi => ∃ t u v, h.get? a = some { cls := .type "range", data := .fields #[.int lo t, .int hi u, .int 1 v] }
 | .frz o u => h.get? a = some o /\ ObjOk H h a u
 | .tbl ps => h.get? a = some { cls := .none, data := .fields ps }
 | .lam p q => ∃ ps : Array Value, h.get? a = some (PySem.W.tabObj ps) /\ TriplesOk ps.toList /\ (codeAmong p ps.toList = none \/ ∃ c, codeAmong p ps.toList = some (.ref c) /\ H c = some (.code q))
 | .code q => h.CodeRec (.ref a) q
 | .met f x => h.get? a = some (PySem.W.methodObj (.ref f) (.ref x))
 | .ext φ => φ h /\ (∃ o, h.get? a = some o) /\ ∀ h1 h2 : Heap, φ h1 -> (∀ o, h1.get? a = some o -> h2.get? a = some o) -> φ h2
noncomputable def HOk (H : Hp) (h : Heap) : Prop := ∀ a o, H a = some o -> ObjOk P w H h a o
end
section
variable {P : Program} {w : World} {H H' : Hp} {h h' : Heap} {a : Addr} {o : HO}
theorem ObjOk.lt (x : ObjOk P w H h a o) : a < h.objs.size := by
 cases o with
 | lst xs => obtain ⟨_, _, _, _, e⟩ := x; exact Heap.lt_size e
 | tup xs => obtain ⟨_, _, _, p⟩ := x; exact p.lt
 | dK kvs => obtain ⟨_, _, _, _, o, _, _, e, _⟩ := x; exact Heap.lt_size e
 | dT kvs => obtain ⟨_, _, _, _, o, _, _, e, _⟩ := x; exact Heap.lt_size e
 | set S n => obtain ⟨o, _, _, _, e, _⟩ := x; exact Heap.lt_size e
 | ins C dx fs => obtain ⟨_, _, _, e, _⟩ := x; exact Heap.lt_size e
 | own y => obtain ⟨_, e⟩ := x; exact Heap.lt_size e
 | xd fs => obtain ⟨_, ⟨_, _, _, e, _⟩, _⟩ := x; exact Heap.lt_size e
 | rng lo hi => obtain ⟨_, _, _, e⟩ := x; exact Heap.lt_size e
 | frz ob u => obtain ⟨e, _⟩ := x; exact Heap.lt_size e
 | tbl ps => exact Heap.lt_size (show h.get? a = some _ from x)
 | lam p q => obtain ⟨_, e, _⟩ := x; exact Heap.lt_size e
 | code q => obtain ⟨_, _, _, _, z, e, _⟩ := x; cases z; exact Heap.lt_size e
 | met f y => exact Heap.lt_size (show h.get? a = some _ from x)
 | ext φ => obtain ⟨_, ⟨_, e⟩, _⟩ := x; exact Heap.lt_size e
theorem Paired.mapP {α β : Type} {F G : α -> β -> Prop} : ∀ {l₁ : List α} {l₂ : List β}, Paired F l₁ l₂ -> (∀ a b, F a b -> G a b) -> Paired G l₁ l₂ := by
 intro l₁ l₂ h f
 induction h with
 | nil => exact .nil
 | cons r t ih => exact .cons (f _ _ r) ih
theorem Paired.imp' {α β : Type} {F G : α -> β -> Prop} (f : ∀ a b, F a b -> G a b) {l₁ : List α} {l₂ : List β} (r : Paired F l₁ l₂) : Paired G l₁ l₂ := Paired.mapP r f
theorem ObjOk.stay (x : ObjOk P w H h a o) (k : ∀ b u, (b = a \/ H b = some (.own a)) -> h.get? b = some u -> h'.get? b = some u)
  (ho : ∀ b, H b = some (.own a) -> H' b = some (.own a)) (ht : ∀ b xs, TupT H b xs -> TupT H' b xs) (hc : ∀ b q, H b = some (.code q) -> H' b = some (.code q) := by first | exact fun _ _ z => z | (intro c y z; rw [upd_ne (ne_of_none z (by assumption))]; exact z)) : ObjOk P w H' h' a o := by
 induction o with
 | lst xs => obtain ⟨z, its, n, r, e⟩ := x; exact ⟨z, its, n, r, k _ _ (.inl rfl) e⟩
 | tup xs => obtain ⟨z, its, r, ob, e, c⟩ := x; exact ⟨z, its, r, ob, k _ _ (.inl rfl) e, c⟩
 | dK kvs => obtain ⟨z, y, vs, r, ob, es, ep, e, c⟩ := x; exact ⟨z, y, vs, r, ob, es, ep, k _ _ (.inl rfl) e, c⟩
 | dT kvs =>
   obtain ⟨z, y, xs, r, ob, es, ep, e, c⟩ := x
   exact ⟨z, y, xs, Paired.mapP r fun p q z => ⟨z.1, ht _ _ z.2.1, z.2.2⟩, ob, es, ep, k _ _ (.inl rfl) e, c⟩
 | set S n => obtain ⟨ob, es, ep, t, e, c⟩ := x; exact ⟨ob, es, ep, t, k _ _ (.inl rfl) e, c⟩
 | ins C dx fs =>
   obtain ⟨d, z, ne, e, mA, ⟨od, es, ep, e2, c⟩, r⟩ := x
   exact ⟨ho _ d, z, ne, k _ _ (.inl rfl) e, mA, ⟨od, es, ep, k _ _ (.inr d) e2, c⟩, r⟩
 | own y => obtain ⟨ob, e⟩ := x; exact ⟨ob, k _ _ (.inl rfl) e⟩
 | xd fs => obtain ⟨mA, ⟨od, es, ep, e, c⟩, r⟩ := x; exact ⟨mA, ⟨od, es, ep, k _ _ (.inl rfl) e, c⟩, r⟩
 | rng lo hi => obtain ⟨t, u, v, e⟩ := x; exact ⟨t, u, v, k _ _ (.inl rfl) e⟩
 | frz ob u ih => obtain ⟨e, q⟩ := x; exact ⟨k _ _ (.inl rfl) e, ih q⟩
 | lam p q => obtain ⟨ps, e, t, r⟩ := x; exact ⟨ps, k _ _ (.inl rfl) e, t, r.imp id fun ⟨c, e1, e2⟩ => ⟨c, e1, hc c q e2⟩⟩
 | code q => obtain ⟨c, o, vs, t, z, e, r⟩ := x; cases z; exact ⟨_, o, vs, t, rfl, k _ _ (.inl rfl) e, r⟩
 | tbl ps =>
   have e : h.get? a = some { cls := .none, data := .fields ps } := x
   show h'.get? a = some { cls := .none, data := .fields ps }
   exact k a _ (.inl rfl) e
 | met f y =>
   have e : h.get? a = some (PySem.W.methodObj (.ref f) (.ref y)) := x
   show h'.get? a = some (PySem.W.methodObj (.ref f) (.ref y))
   exact k a _ (.inl rfl) e
 | ext φ => obtain ⟨p, ⟨o, e⟩, st⟩ := x; exact ⟨st _ _ p fun o q => k _ _ (.inl rfl) q, ⟨o, k _ _ (.inl rfl) e⟩, st⟩
theorem HOk.lt (x : HOk P w H h) (e : H a = some o) : a < h.objs.size := (x a o e).lt
theorem HOk.fresh (x : HOk P w H h) (e : h.objs.size <= a) : H a = none := by
 cases q : H a with
 | none => rfl
 | some u => exact absurd (Nat.lt_of_lt_of_le (x.lt q) e) (Nat.lt_irrefl _)
theorem HOk.kept (x : HOk P w H h) (k : ∀ b u, h.get? b = some u -> h'.get? b = some u) : HOk P w H h' := fun a o e =>
 (x a o e).stay (fun b u _ q => k b u q) (fun _ q => q) (fun _ _ q => q) fun _ _ q => q
theorem HOk.laid (x : HOk P w H h) (k : ∀ b u, h.get? b = some u -> h'.get? b = some u) (hp : h.objs.size <= a) (new : ObjOk P w (upd H a o) h' a o) : HOk P w (upd H a o) h' := fun b u e => by
 have hn := x.fresh hp
 by_cases hb : b = a
 ·subst hb; rw [upd_same] at e; cases e; exact new
 ·rw [upd_ne hb] at e
  exact (x b u e).stay (fun c v _ q => k c v q) (fun c q => by rw [upd_ne (ne_of_none q hn)]; exact q) (fun c xs q => q.new hn) fun c _ q => by rw [upd_ne (ne_of_none q hn)]; exact q
end
noncomputable def Rd (H : Hp) (a : Addr) (u : HO) : Prop := H a = some u \/ ∃ o, H a = some (.frz o u)
theorem Rd.ok {P : Program} {w : World} {H : Hp} {h : Heap} {a : Addr} {u : HO} (r : Rd H a u) (x : HOk P w H h) : ObjOk P w H h a u := by
 rcases r with r | ⟨o, r⟩
 ·exact x a u r
 ·obtain ⟨_, q⟩ := x a _ r
  exact q
noncomputable def Mut : Option HO -> Prop
 | some (.lst _) => True
 | some (.dK _) => True
 | some (.dT _) => True
 | some (.set _ _) => True
 | some (.ins _ _ _) => True
 | some (.ext _) => True
 | _ => False
section
variable {P : Program} {w : World} {H : Hp} {h h' : Heap} {x e : Addr} {o' : HO}
theorem HOk.write (ok : HOk P w H h) (mu : Mut (H x)) (he : e = x \/ H e = some (.own x)) (k : ∀ b u, b ≠ e -> h.get? b = some u -> h'.get? b = some u) (heo : ∃ u, h'.get? e = some u)
  (new : ObjOk P w (upd H x o') h' x o') : HOk P w (upd H x o') h' := fun b u q => by
 have nown : ∀ c y, H c = some (.own y) -> c ≠ x := fun c y r z => by subst z; rw [r] at mu; exact mu
 have ntup : ∀ c xs, H c = some (.tup xs) -> c ≠ x := fun c xs r z => by subst z; rw [r] at mu; exact mu
 by_cases hb : b = x
 ·subst hb; rw [upd_same] at q; cases q; exact new
 ·rw [upd_ne hb] at q
  by_cases hbe : b = e
  ·have q' : H b = some (.own x) := by
    rcases he with z | z
    ·exact absurd (hbe.trans z) hb
    ·rw [hbe]; exact z
   rw [q] at q'; cases q'
   obtain ⟨v, hv⟩ := heo
   exact ⟨v, by rw [hbe]; exact hv⟩
  ·refine (ok b u q).stay (fun c v hc r => k c v ?_ r) (fun c r => by rw [upd_ne (nown c b r)]; exact r) (fun c xs r => r.ne fun z => by
    subst z
    rcases r with r | ⟨ob, r⟩ <;> rw [r] at mu <;> exact mu) fun c y r => by rw [upd_ne fun z => by subst z; rw [r] at mu; exact mu]; exact r
   rcases hc with rfl | hc
   ·exact hbe
   ·rintro rfl
    rcases he with z | z
    ·exact nown c b hc z
    ·rw [hc] at z; cases z; exact hb rfl
end
structure Un (fs ex : List Addr) (H H' : Hp) (h h' : Heap) : Prop where
 keep : ∀ b o, h.get? b = some o -> H b = none -> b ∉ fs -> b ∉ ex -> h'.get? b = some o
 slot : ∀ b o, h.get? b = some o -> H b = none -> b ∈ fs -> b ∉ ex -> ∃ sl, h'.get? b = some { o with slots := sl }
 free : ∀ b o, h.get? b = some o -> H b = none -> b ∉ ex -> H' b = none
 there : ∀ b o, h.get? b = some o -> b ∉ ex -> ∃ o', h'.get? b = some o'
 tups : ∀ b xs, H b = some (.tup xs) -> H' b = some (.tup xs)
 frzs : ∀ b o u, H b = some (.frz o u) -> H' b = some (.frz o u)
 tbls : ∀ b ps, H b = some (.tbl ps) -> ∃ more, H' b = some (.tbl (ps ++ more))
section
variable {fs fs' ex ex' : List Addr} {H H1 H2 : Hp} {h h1 h2 h' : Heap} {a x e : Addr} {o : HO}
theorem Un.any (u : Un fs ex H H1 h h1) {b : Addr} {ob : Obj} (q : h.get? b = some ob) (n : H b = none) (hx : b ∉ ex) : ∃ sl, h1.get? b = some { ob with slots := sl } := by
 by_cases hb : b ∈ fs
 ·exact u.slot b ob q n hb hx
 ·exact ⟨ob.slots, u.keep b ob q n hb hx⟩
theorem Un.kept (k : ∀ b u, h.get? b = some u -> h'.get? b = some u) : Un fs ex H H h h' :=
 ⟨fun b ob q _ _ _ => k b ob q, fun b ob q _ _ _ => ⟨ob.slots, k b ob q⟩, fun _ _ _ n _ => n, fun b ob q _ => ⟨ob, k b ob q⟩, fun _ _ q => q, fun _ _ _ q => q, fun _ ps q => ⟨#[], by rw [q]; simp⟩⟩
theorem Un.refl : Un fs ex H H h h := Un.kept fun _ _ q => q
theorem Un.laid (k : ∀ b u, h.get? b = some u -> h'.get? b = some u) (hp : h.objs.size <= a) (hn : H a = none) : Un fs ex H (upd H a o) h h' where
 keep := fun b u q _ _ _ => k b u q
 slot := fun b u q _ _ _ => ⟨u.slots, k b u q⟩
 free := fun b u q n _ => by rw [upd_ne (Nat.ne_of_lt (Nat.lt_of_lt_of_le (Heap.lt_size q) hp))]; exact n
 there := fun b u q _ => ⟨u, k b u q⟩
 tups := fun b xs q => by rw [upd_ne (ne_of_none q hn)]; exact q
 frzs := fun b u xs q => by rw [upd_ne (ne_of_none q hn)]; exact q
 tbls := fun b ps q => ⟨#[], by rw [upd_ne (ne_of_none q hn), q]; simp⟩
theorem Un.write (mu : Mut (H x)) (he : e = x \/ H e = some (.own x)) (k : ∀ b u, b ≠ e -> h.get? b = some u -> h'.get? b = some u) (heo : ∃ u, h'.get? e = some u) : Un fs ex H (upd H x o) h h' := by
 have hx : ∀ b, H b = none -> b ≠ x := fun b n z => by subst z; rw [n] at mu; exact mu
 have hb : ∀ b, H b = none -> b ≠ e := fun b n z => by
  subst z
  rcases he with r | r
  ·exact hx b n r
  ·rw [n] at r; cases r
 have hm : ∀ b u, H b = some u -> ¬ Mut (some u) -> b ≠ x := fun b u q nm z => by subst z; rw [q] at mu; exact nm mu
 refine ⟨fun b u q n _ _ => k b u (hb b n) q, fun b u q n _ _ => ⟨u.slots, k b u (hb b n) q⟩, fun b u q n _ => by rw [upd_ne (hx b n)]; exact n, fun b u q _ => ?_,
  fun b xs q => by rw [upd_ne (hm b _ q fun z => z)]; exact q, fun b u xs q => by rw [upd_ne (hm b _ q fun z => z)]; exact q, fun b ps q => ⟨#[], by rw [upd_ne (hm b _ q fun z => z), q]; simp⟩⟩
 by_cases hbe : b = e
 ·subst hbe; exact heo
 ·exact ⟨u, k b u hbe q⟩
end
noncomputable def trk (h : Heap) (H : Hp) : List Addr := (List.range h.objs.size).filter fun a => (H a).isSome
noncomputable def hidT (h : Heap) (H : Hp) : Heap := PySem.W.hideAll h (trk h H)
theorem hidT_size (h : Heap) (H : Hp) : (hidT h H).objs.size = h.objs.size := PySem.W.hideAll_size _ _
theorem hidT_get {h : Heap} {H : Hp} {b : Addr} {o : Obj} (e : h.get? b = some o) (n : H b = none) : (hidT h H).get? b = some o :=
 PySem.W.hideAll_get _ e fun hm => by
  have q : (H b).isSome = true := (List.mem_filter.mp hm).2
  rw [n] at q; simp at q
theorem of_hidT {h : Heap} {H : Hp} {b : Addr} {o : Obj} (e : (hidT h H).get? b = some o) : h.get? b = some o /\ H b = none := by
 have e' : h.get? b = some o := PySem.W.of_hideAll (trk h H) e
 refine ⟨e', ?_⟩
 cases q : H b with
 | none => rfl
 | some x =>
   have hm : b ∈ trk h H := List.mem_filter.mpr ⟨List.mem_range.mpr (Heap.lt_size e'), by simp [q]⟩
   have z : (hidT h H).get? b = none := PySem.W.hideAll_none (trk h H) hm
   rw [z] at e; cases e
noncomputable def allNews (g h : Heap) (L : Addr) : List (Addr × Obj) := (List.range h.objs.size).filterMap fun a => if a = L \/ (g.get? a).isSome = true then none else (h.get? a).map fun o => (a, o)
noncomputable def rest (g h : Heap) (L d : Addr) : List (Addr × Obj) := (allNews g h L).filter fun p => decide (p.1 ≠ d)
end L2
namespace L2
open PySem PySem.Spec PyProof.Rows
structure Mod (K : PySem.W.Frag) (mg : Str -> Option Value) (base : Heap) : Prop where
 kin : K.In base
 glob : base.Ns mainGlobals mg
 blt : ∃ mb, base.Ns builtinsNs mb /\ ∀ x : Str, x ≠ "__name__" -> mb x = bootBuiltins x
 nolimit : base.NoLimit
structure Cx where
 prog : Program
 w : World
 K : PySem.W.Frag
 mg : Str -> Option Value
 base : Heap
 A : Around
 N : List Str
 s₀ : Shared
 H₀ : Hp
 env : Env
 outer : List Env
 stack : List Env
 ex : List Addr
 fn : Str -> Bool
 calm : Bool
 pn : List (Addr × Obj)
 xe : Value -> Shared -> Prop
noncomputable def frs (l : List Env) : List Addr := l.filterMap (·.frame)
noncomputable abbrev Cx.fs (X : Cx) : List Addr := frs X.outer
noncomputable def Vis (sc : Scope) (x : Str) : Prop := sc.names.lookup x = some .local \/ sc.names.lookup x = some .cell \/ sc.names.lookup x = some .free
noncomputable def Loc (sc : Scope) (x : Str) : Prop := sc.names.lookup x = some .local \/ sc.names.lookup x = some .cell
noncomputable def Look (env : Env) (h : Heap) (m : Str -> Option Value) (x : Str) (u : Value) : Prop :=
 (env.kindOf x = some .local /\ m x = some u) \/ ((env.kindOf x = some .cell \/ env.kindOf x = some .free) /\ ∃ c, env.cells.lookup x = some c /\ h.IsCell c (some u))
structure Cx.Ok (X : Cx) : Prop where
 mod : Mod X.K X.mg X.base
 kind : X.env.scope.kind = .function
 glob : X.env.globals = mainGlobals
 blt : X.env.builtins = builtinsNs
 above : X.s₀.heap.objs.size <= X.env.locals
 inj : ∀ x y c, X.env.cells.lookup x = some c -> X.env.cells.lookup y = some c -> x = y
 has : ∀ x, (X.env.kindOf x = some .cell \/ X.env.kindOf x = some .free) -> ∃ c, X.env.cells.lookup x = some c
 cab : ∀ x c, X.fn x = true -> X.env.cells.lookup x = some c -> X.s₀.heap.objs.size <= c
 hd : X.calm = true -> X.A.handled = none
 frames : X.A.frames = some X.stack
 stk : X.stack = X.outer \/ (X.stack = X.env :: X.outer /\ X.env.frame = some X.env.locals)
 exf : ∀ b ∈ X.ex, b ≠ X.env.locals /\ ∀ x c, X.env.cells.lookup x = some c -> c ≠ b
 bs : ∀ b o, X.base.get? b = some o -> X.s₀.heap.get? b = some o /\ X.H₀ b = none
 bsz : X.base.objs.size <= X.s₀.heap.objs.size
 noex : ∀ b o, X.base.get? b = some o -> b ∉ X.ex
 exfs : ∀ b ∈ X.ex, b ∉ X.fs
 funs : X.s₀.heap.FunFrames X.base X.outer
 frf : ∀ b ∈ X.fs, X.H₀ b = none
structure Inv (X : Cx) (pins : List (Addr × Obj)) (σ : List (Option V)) (H : Hp) (s : Shared) : Prop where
 ok : X.Ok
 os : s.os = X.s₀.os
 bare : AllBare s.gens
 base : Un X.fs X.ex X.H₀ H X.s₀.heap s.heap
 loc : ∃ m, s.heap.Ns X.env.locals m /\ ∀ (i : Nat) (x : Str) (v : V), X.N[i]? = some x -> σ[i]? = some (some v) -> Vis X.env.scope x -> ∃ u, RelV v u /\ Look X.env s.heap m x u
 cell : ∀ x c, X.env.cells.lookup x = some c -> ∃ v, s.heap.IsCell c v
 free : H X.env.locals = none
 freeC : ∀ x c, X.env.cells.lookup x = some c -> H c = none
 pin : ∀ p ∈ X.pn ++ pins, s.heap.get? p.1 = some p.2 /\ H p.1 = none /\ p.1 ≠ X.env.locals /\ p.1 ∉ X.fs /\ ∀ v, p.2.data ≠ .cell v
 hok : HOk X.prog X.w H s.heap
 len : σ.length = X.N.length
section
variable {X : Cx} {pins : List (Addr × Obj)} {σ : List (Option V)} {H H' : Hp} {s : Shared} {h' : Heap}
theorem Cx.Ok.nofr (ok : X.Ok) {b : Addr} {o : Obj} (e : X.base.get? b = some o) : b ∉ X.fs := fun hb => by
 have := (ok.funs.mem hb).1
 rw [e] at this; cases this
theorem Inv.bs (I : Inv X pins σ H s) : ∀ b o, X.base.get? b = some o -> s.heap.get? b = some o /\ H b = none := fun b o e =>
 ⟨I.base.keep b o (I.ok.bs b o e).1 (I.ok.bs b o e).2 (I.ok.nofr e) (I.ok.noex b o e), I.base.free b o (I.ok.bs b o e).1 (I.ok.bs b o e).2 (I.ok.noex b o e)⟩
theorem Inv.bk (I : Inv X pins σ H s) : ∀ b o, X.base.get? b = some o -> s.heap.get? b = some o := fun b o e => (I.bs b o e).1
theorem Inv.mod (I : Inv X pins σ H s) : Mod X.K X.mg X.base := I.ok.mod
theorem Inv.kIn (I : Inv X pins σ H s) : X.K.In s.heap := I.ok.mod.kin.keeps I.bk
theorem Inv.lt (I : Inv X pins σ H s) : X.env.locals < s.heap.objs.size := let ⟨_, hn, _⟩ := I.loc; hn.lt
theorem Inv.sz (I : Inv X pins σ H s) : X.s₀.heap.objs.size <= s.heap.objs.size := Nat.le_trans I.ok.above (Nat.le_of_lt I.lt)
theorem Inv.nofs (I : Inv X pins σ H s) {a : Addr} (h : s.heap.objs.size <= a) : a ∉ X.fs := fun hb => by
 obtain ⟨_, o, ho, _⟩ := I.ok.funs.mem hb
 exact absurd (Nat.lt_of_lt_of_le (Heap.lt_size ho) (Nat.le_trans I.sz h)) (Nat.lt_irrefl _)
theorem Inv.cne (I : Inv X pins σ H s) : ∀ x c, X.env.cells.lookup x = some c -> c ≠ X.env.locals := fun x c e z => by
 obtain ⟨v, o, ho, hd⟩ := I.cell x c e
 obtain ⟨m, ⟨o', es, ep, ho', hd', _⟩, _⟩ := I.loc
 rw [z, ho'] at ho; cases ho; rw [hd'] at hd; cases hd
theorem Inv.funs (I : Inv X pins σ H s) : s.heap.FunFrames X.base X.outer := by
 have all : ∀ (l : List Env), (∀ b ∈ frs l, b ∈ X.fs) -> X.s₀.heap.FunFrames X.base l -> s.heap.FunFrames X.base l := by
  intro l
  induction l with
  | nil => intro _ _; trivial
  | cons env r ih =>
    intro hs hl
    obtain ⟨hk, ⟨L, o, hf, hn, ho, hd⟩, hr⟩ := hl
    have hL : L ∈ X.fs := hs L (by unfold frs; rw [List.filterMap_cons, hf]; exact List.mem_cons_self)
    obtain ⟨sl, e⟩ := I.base.slot L o ho (I.ok.frf L hL) hL fun z => I.ok.exfs L z hL
    exact ⟨hk, ⟨L, _, hf, hn, e, hd⟩, ih (fun b hb => hs b (by unfold frs; rw [List.filterMap_cons, hf]; exact List.mem_cons_of_mem _ hb)) hr⟩
 exact all X.outer (fun _ hb => hb) I.ok.funs
theorem Inv.stack (I : Inv X pins σ H s) : s.heap.FunFrames X.base X.stack := by
 rcases I.ok.stk with e | ⟨e, hf⟩
 ·rw [e]; exact I.funs
 ·rw [e]
  obtain ⟨m, hn, _⟩ := I.loc
  refine .cons (by rw [I.ok.kind]; decide) hf hn ?_ I.funs
  exact Heap.get?_none_of_le (Nat.le_trans I.ok.bsz I.ok.above)
theorem Inv.stkSub (I : Inv X pins σ H s) : ∀ b ∈ frs X.stack, b ∈ X.env.locals :: X.fs := fun b hb => by
 rcases I.ok.stk with e | ⟨e, hf⟩
 ·rw [e] at hb; exact List.mem_cons_of_mem _ hb
 ·rw [e] at hb
  unfold frs at hb
  rw [List.filterMap_cons, hf] at hb
  exact hb
theorem Inv.stkFree (I : Inv X pins σ H s) : ∀ b ∈ frs X.stack, H b = none := fun b hb => by
 rcases List.mem_cons.mp (I.stkSub b hb) with e | hb
 ·rw [e]; exact I.free
 ·obtain ⟨_, o, ho, _⟩ := I.ok.funs.mem hb
  exact I.base.free b o ho (I.ok.frf b hb) fun z => I.ok.exfs b z hb
theorem Inv.step {g' : Array GenState} {t' : Nat} {d' : Drawn} {ch : List Addr} (I : Inv X pins σ H s)
  (hch : ∀ b ∈ ch, (b ∈ X.ex \/ X.s₀.heap.objs.size <= b) /\ b ≠ X.env.locals /\ (∀ x c, X.env.cells.lookup x = some c -> c ≠ b) /\ ∀ p ∈ X.pn ++ pins, p.1 ≠ b)
  (keep : ∀ b o, b ≠ X.env.locals -> b ∉ X.fs -> b ∉ ch -> s.heap.get? b = some o -> H b = none -> h'.get? b = some o)
  (slot : ∀ b o, b ≠ X.env.locals -> b ∈ X.fs -> b ∉ ch -> s.heap.get? b = some o -> H b = none -> ∃ sl, h'.get? b = some { o with slots := sl }) (free : ∀ b o, b ∉ ch -> s.heap.get? b = some o -> H b = none -> H' b = none)
  (there : ∀ b o, b ∉ ch -> s.heap.get? b = some o -> ∃ o', h'.get? b = some o')
  (tups : ∀ b xs, H b = some (.tup xs) -> H' b = some (.tup xs)) (frzs : ∀ b o u, H b = some (.frz o u) -> H' b = some (.frz o u)) (tbls : ∀ b ps, H b = some (.tbl ps) -> ∃ more, H' b = some (.tbl (ps ++ more)))
  (ns : ∀ m, s.heap.Ns X.env.locals m -> h'.Ns X.env.locals m) (hok : HOk X.prog X.w H' h') (hg : AllBare g') :
  Inv X pins σ H' { s with heap := h', gens := g', drawn := d', toks := t' } := by
 have neL : ∀ b o, X.s₀.heap.get? b = some o -> b ≠ X.env.locals := fun b o e => Nat.ne_of_lt (Nat.lt_of_lt_of_le (Heap.lt_size e) I.ok.above)
 have neC : ∀ b o, X.s₀.heap.get? b = some o -> b ∉ X.ex -> b ∉ ch := fun b o e hx hb => by
  rcases (hch b hb).1 with z | z
  ·exact hx z
  ·exact absurd (Nat.lt_of_lt_of_le (Heap.lt_size e) z) (Nat.lt_irrefl _)
 have cellK : ∀ x c, X.env.cells.lookup x = some c -> ∀ v, s.heap.IsCell c v -> h'.IsCell c v := fun x c e v ⟨o, ho, hd⟩ => by
  have nch : c ∉ ch := fun z => (hch c z).2.2.1 x c e rfl
  by_cases hc : c ∈ X.fs
  ·obtain ⟨sl, q⟩ := slot c o (I.cne x c e) hc nch ho (I.freeC x c e)
   exact ⟨_, q, hd⟩
  ·exact ⟨o, keep c o (I.cne x c e) hc nch ho (I.freeC x c e), hd⟩
 refine ⟨I.ok, I.os, hg, ⟨fun b o e n hb hx => ?_, fun b o e n hb hx => ?_, fun b o e n hx => ?_, fun b o e hx => ?_, fun b xs e => tups b xs (I.base.tups b xs e), fun b o xs e => frzs b o xs (I.base.frzs b o xs e), fun b ps e => ?_⟩, ?_, fun x c e => ?_, ?_, fun x c e => ?_, fun p hp => ?_, hok, I.len⟩
 ·exact keep b o (neL b o e) hb (neC b o e hx) (I.base.keep b o e n hb hx) (I.base.free b o e n hx)
 ·obtain ⟨sl, e1⟩ := I.base.slot b o e n hb hx
  obtain ⟨sl', e2⟩ := slot b _ (neL b o e) hb (neC b o e hx) e1 (I.base.free b o e n hx)
  exact ⟨sl', e2⟩
 ·obtain ⟨o', e1⟩ := I.base.there b o e hx
  exact free b o' (neC b o e hx) e1 (I.base.free b o e n hx)
 ·obtain ⟨o', e1⟩ := I.base.there b o e hx
  exact there b o' (neC b o e hx) e1
 ·obtain ⟨m1, e1⟩ := I.base.tbls b ps e
  obtain ⟨m2, e2⟩ := tbls b _ e1
  exact ⟨m1 ++ m2, by rw [e2, Array.append_assoc]⟩
 ·obtain ⟨m, hn, hl⟩ := I.loc
  refine ⟨m, ns m hn, fun i x v e1 e2 e3 => ?_⟩
  obtain ⟨u, r, l⟩ := hl i x v e1 e2 e3
  refine ⟨u, r, ?_⟩
  rcases l with l | ⟨k, c, e, z⟩
  ·exact .inl l
  ·exact .inr ⟨k, c, e, cellK x c e _ z⟩
 ·obtain ⟨v, z⟩ := I.cell x c e
  exact ⟨v, cellK x c e v z⟩
 ·obtain ⟨m, ⟨o, _, _, ho, _⟩, _⟩ := I.loc
  exact free _ o (fun z => (hch _ z).2.1 rfl) ho I.free
 ·obtain ⟨v, o, ho, hd⟩ := I.cell x c e
  exact free c o (fun z => (hch c z).2.2.1 x c e rfl) ho (I.freeC x c e)
 ·obtain ⟨e, n, ne, nf, d⟩ := I.pin p hp
  have nch : p.1 ∉ ch := fun z => (hch p.1 z).2.2.2 p hp rfl
  exact ⟨keep p.1 p.2 ne nf nch e n, free p.1 p.2 nch e n, ne, nf, d⟩
theorem Inv.un {t' : Nat} (I : Inv X pins σ H s) (u : Un X.fs [] H H' s.heap h') (hok : HOk X.prog X.w H' h') : Inv X pins σ H' { s with heap := h', toks := t' } := by
 obtain ⟨m, ⟨o, es, ep, ho, r⟩, _⟩ := id I.loc
 obtain ⟨sl, hL⟩ := u.any ho I.free (by simp)
 exact I.step (g' := s.gens) (d' := s.drawn) (ch := []) (fun _ z => nomatch z) (fun b o _ hb _ e n => u.keep b o e n hb (by simp)) (fun b o _ hb _ e n => u.slot b o e n hb (by simp)) (fun b o _ e n => u.free b o e n (by simp)) (fun b o _ e => u.there b o e (by simp)) u.tups u.frzs u.tbls (fun m' hm => by
  obtain ⟨o', es', ep', ho', r'⟩ := hm
  rw [ho] at ho'; cases ho'
  exact ⟨_, es', ep', hL, r'⟩) hok I.bare
theorem Inv.call {g' : Array GenState} {t' : Nat} {d' : Drawn} {ch : List Addr} (I : Inv X pins σ H s) (u : Un (frs X.stack) ch H H' s.heap h') (hok : HOk X.prog X.w H' h') (hg : AllBare g')
  (hch : ∀ b ∈ ch, (b ∈ X.ex \/ X.s₀.heap.objs.size <= b) /\ b ≠ X.env.locals /\ (∀ x c, X.env.cells.lookup x = some c -> c ≠ b) /\ ∀ p ∈ X.pn ++ pins, p.1 ≠ b) :
  Inv X pins σ H' { s with heap := h', gens := g', drawn := d', toks := t' } := by
 obtain ⟨m, ⟨o, es, ep, ho, r⟩, _⟩ := id I.loc
 obtain ⟨sl, hL⟩ := u.any ho I.free fun z => (hch _ z).2.1 rfl
 exact I.step (ch := ch) hch (fun b o hL hb hc e n => u.keep b o e n (fun z => (List.mem_cons.mp (I.stkSub b z)).elim hL hb) hc) (fun b o _ _ hc e n => u.any e n hc) (fun b o hc e n => u.free b o e n hc) (fun b o hc e => u.there b o e hc) u.tups u.frzs u.tbls (fun m' hm => by
  obtain ⟨o', es', ep', ho', r'⟩ := hm
  rw [ho] at ho'; cases ho'
  exact ⟨_, es', ep', hL, r'⟩) hok hg
theorem Inv.turned {t' : Nat} {it : Addr} (I : Inv X pins σ H s) (k : ∀ b o, b ≠ it -> s.heap.get? b = some o -> h'.get? b = some o) (hn : H it = none) (hL : it ≠ X.env.locals)
  (h1 : it ∈ X.ex \/ X.s₀.heap.objs.size <= it) (h2 : ∀ x c, X.env.cells.lookup x = some c -> c ≠ it) (h3 : ∀ p ∈ X.pn ++ pins, p.1 ≠ it) : Inv X pins σ H { s with heap := h', toks := t' } := by
 have nit : ∀ b u, H b = some u -> b ≠ it := fun b u e z => by rw [z, hn] at e; cases e
 refine I.step (g' := s.gens) (d' := s.drawn) (ch := [it]) (fun b hb => ?_) (fun b o _ _ hc e _ => k b o (fun z => hc (by simp [z])) e) (fun b o _ _ hc e _ => ⟨o.slots, k b o (fun z => hc (by simp [z])) e⟩) (fun _ _ _ _ n => n)
  (fun b o hc e => ⟨o, k b o (fun z => hc (by simp [z])) e⟩) (fun _ _ e => e) (fun _ _ _ e => e) (fun b ps e => ⟨#[], by rw [e]; simp⟩) (fun m hm => ?_) (fun b u e => ?_) I.bare
 ·have e : b = it := by simpa using hb
  subst e
  exact ⟨h1, hL, h2, h3⟩
 ·obtain ⟨o, es, ep, ho, r⟩ := hm
  exact ⟨o, es, ep, k _ o (Ne.symm hL) ho, r⟩
 ·refine (I.hok b u e).stay (fun c v hc q => k c v ?_ q) (fun _ q => q) (fun _ _ q => q) fun _ _ q => q
  rcases hc with z | z
  ·rw [z]; exact nit b u e
  ·exact nit c _ z
theorem Inv.tok (I : Inv X pins σ H s) (t : Nat) : Inv X pins σ H { s with toks := t } := I.un (h' := s.heap) (t' := t) Un.refl I.hok
theorem Inv.kept {t' : Nat} (I : Inv X pins σ H s) (k : ∀ b u, s.heap.get? b = some u -> h'.get? b = some u) : Inv X pins σ H { s with heap := h', toks := t' } := I.un (Un.kept k) (I.hok.kept k)
theorem Inv.laid {a : Addr} {o : HO} {t' : Nat} (I : Inv X pins σ H s) (k : ∀ b u, s.heap.get? b = some u -> h'.get? b = some u) (hp : s.heap.objs.size <= a) (new : ObjOk X.prog X.w (upd H a o) h' a o) :
  Inv X pins σ (upd H a o) { s with heap := h', toks := t' } := I.un (Un.laid k hp (I.hok.fresh hp)) (I.hok.laid k hp new)
theorem Inv.write {x e : Addr} {o : HO} {t' : Nat} (I : Inv X pins σ H s) (mu : Mut (H x)) (he : e = x \/ H e = some (.own x)) (k : ∀ b u, b ≠ e -> s.heap.get? b = some u -> h'.get? b = some u) (heo : ∃ u, h'.get? e = some u)
  (new : ObjOk X.prog X.w (upd H x o) h' x o) : Inv X pins σ (upd H x o) { s with heap := h', toks := t' } := I.un (Un.write mu he k heo) (I.hok.write mu he k heo new)
theorem Inv.pins_of {pins' : List (Addr × Obj)} (I : Inv X pins σ H s) (h : ∀ p ∈ pins', s.heap.get? p.1 = some p.2 /\ H p.1 = none /\ p.1 ≠ X.env.locals /\ p.1 ∉ X.fs /\ ∀ v, p.2.data ≠ .cell v) : Inv X pins' σ H s :=
 ⟨I.ok, I.os, I.bare, I.base, I.loc, I.cell, I.free, I.freeC, fun p hp => (List.mem_append.mp hp).elim (fun z => I.pin p (List.mem_append_left _ z)) (h p), I.hok, I.len⟩
theorem nodup_ix {N : List Str} (hN : N.Nodup) {i j : Nat} {x : Str} (a : N[i]? = some x) (b : N[j]? = some x) : i = j := by
 obtain ⟨h1, e1⟩ := List.getElem?_eq_some_iff.mp a
 obtain ⟨h2, e2⟩ := List.getElem?_eq_some_iff.mp b
 exact (List.getElem_inj hN).mp (e1.trans e2.symm)
theorem store_ok2 {M : Model} {A : Around} {E : Value -> Shared -> Prop} {i : Nat} {x : Str} {v : V} {u : Value} {Q : Unit -> Shared -> Prop} (I : Inv X pins σ H s) (hN : X.N.Nodup) (hi : X.N[i]? = some x) (hx : Loc X.env.scope x) (r : RelV v u)
  (h : ∀ s', Inv X pins (σ.set i (some v)) H s' -> (∃ a, Heap.SameBut a s.heap s'.heap /\ (a = X.env.locals \/ X.env.cells.lookup x = some a)) -> Q () s') (hf : X.fn x = true \/ X.env.scope.names.lookup x = some .local) : wpAny M A (storeName X.env x u) Q E s := by
 obtain ⟨m, hn, hl⟩ := id I.loc
 have hcls : (X.env.scope.kind == .class || (X.env.scope.kind == .module && X.env.locals != X.env.globals)) = false := by rw [I.ok.kind]; rfl
 have hiσ : i < σ.length := by rw [I.len]; exact (List.getElem?_eq_some_iff.mp hi).1
 have cne := I.cne
 have tracked : ∀ {a : Addr} {h' : Heap}, (∃ o, s.heap.get? a = some o /\ H a = none) -> Heap.SameBut a s.heap h' -> HOk X.prog X.w H h' := fun {a h'} ha hs b ob e => by
  obtain ⟨_, _, hfree⟩ := ha
  refine (I.hok b ob e).stay (fun c w' hc q => (hs.2 c ?_).trans q) (fun _ q => q) (fun _ _ q => q) fun _ _ q => q
  rintro rfl
  rcases hc with rfl | hc
  ·rw [hfree] at e; cases e
  ·rw [hfree] at hc; cases hc
 rcases hx with hk | hk
 ·refine wpAny_storeName_local hk hn (fun h' hn' hs => ?_) hcls
  obtain ⟨oL, _, _, hoL, _⟩ := id hn
  refine h _ ⟨I.ok, I.os, I.bare, ⟨fun b o e n hb hx => ?_, fun b o e n hb hx => ?_, I.base.free, fun b o e hx => ?_, I.base.tups, I.base.frzs, I.base.tbls⟩, ⟨_, hn', fun j y v' e1 e2 e3 => ?_⟩, fun y c e => ?_, I.free, I.freeC, fun p hp => ?_, tracked ⟨oL, hoL, I.free⟩ hs, by simpa using I.len⟩ ⟨_, hs, .inl rfl⟩
  ·exact (hs.2 b (Nat.ne_of_lt (Nat.lt_of_lt_of_le (Heap.lt_size e) I.ok.above))).trans (I.base.keep b o e n hb hx)
  ·obtain ⟨sl, e1⟩ := I.base.slot b o e n hb hx
   exact ⟨sl, (hs.2 b (Nat.ne_of_lt (Nat.lt_of_lt_of_le (Heap.lt_size e) I.ok.above))).trans e1⟩
  ·obtain ⟨o', e1⟩ := I.base.there b o e hx
   exact ⟨o', (hs.2 b (Nat.ne_of_lt (Nat.lt_of_lt_of_le (Heap.lt_size e) I.ok.above))).trans e1⟩
  ·by_cases hj : j = i
   ·subst hj
    rw [hi] at e1; cases e1
    rw [List.getElem?_set_self hiσ] at e2
    cases e2
    exact ⟨u, r, .inl ⟨hk, by simp⟩⟩
   ·rw [List.getElem?_set_ne (Ne.symm hj)] at e2
    obtain ⟨u', r', q⟩ := hl j y v' e1 e2 e3
    refine ⟨u', r', ?_⟩
    rcases q with ⟨k, e⟩ | ⟨k, c, e, z⟩
    ·refine .inl ⟨k, ?_⟩
     have : y ≠ x := fun e => hj (nodup_ix hN e1 (e ▸ hi))
     simp [this, e]
    ·exact .inr ⟨k, c, e, z.sameBut hs (cne y c e)⟩
  ·obtain ⟨w', z⟩ := I.cell y c e
   exact ⟨w', z.sameBut hs (cne y c e)⟩
  ·obtain ⟨e, n, ne, nf, d⟩ := I.pin p hp
   exact ⟨(hs.2 p.1 ne).trans e, n, ne, nf, d⟩
 ·have hfn : X.fn x = true := by
   rcases hf with z | z
   ·exact z
   ·rw [z] at hk; cases hk
  obtain ⟨c, hc⟩ := I.ok.has x (.inl hk)
  obtain ⟨w', z⟩ := I.cell x c hc
  refine wpAny_storeName_cell I.ok.kind hk hc z (fun h' hc' hs => ?_)
  obtain ⟨oc, hoc, hocd⟩ := id z
  refine h { s with heap := h' } ⟨I.ok, I.os, I.bare, ⟨fun b o e n hb hx => ?_, fun b o e n hb hx => ?_, I.base.free, fun b o e hx => ?_, I.base.tups, I.base.frzs, I.base.tbls⟩, ⟨m, hn.sameBut hs (Ne.symm (cne x c hc)), fun j y v' e1 e2 e3 => ?_⟩, fun y c' e => ?_, I.free, I.freeC, fun p hp => ?_, tracked ⟨oc, hoc, I.freeC x c hc⟩ hs, by simpa using I.len⟩ ⟨c, hs, .inr hc⟩
  ·exact (hs.2 b (Nat.ne_of_lt (Nat.lt_of_lt_of_le (Heap.lt_size e) (I.ok.cab x c hfn hc)))).trans (I.base.keep b o e n hb hx)
  ·obtain ⟨sl, e1⟩ := I.base.slot b o e n hb hx
   exact ⟨sl, (hs.2 b (Nat.ne_of_lt (Nat.lt_of_lt_of_le (Heap.lt_size e) (I.ok.cab x c hfn hc)))).trans e1⟩
  ·obtain ⟨o', e1⟩ := I.base.there b o e hx
   exact ⟨o', (hs.2 b (Nat.ne_of_lt (Nat.lt_of_lt_of_le (Heap.lt_size e) (I.ok.cab x c hfn hc)))).trans e1⟩
  ·by_cases hj : j = i
   ·subst hj
    rw [hi] at e1; cases e1
    rw [List.getElem?_set_self hiσ] at e2
    cases e2
    exact ⟨u, r, .inr ⟨.inl hk, c, hc, hc'⟩⟩
   ·rw [List.getElem?_set_ne (Ne.symm hj)] at e2
    obtain ⟨u', r', q⟩ := hl j y v' e1 e2 e3
    refine ⟨u', r', ?_⟩
    rcases q with q | ⟨k, c', e, z'⟩
    ·exact .inl q
    ·refine .inr ⟨k, c', e, z'.sameBut hs ?_⟩
     rintro rfl
     exact hj (nodup_ix hN e1 (I.ok.inj _ _ _ e hc ▸ hi))
  ·by_cases hcc : c' = c
   ·subst hcc; exact ⟨_, hc'⟩
   ·obtain ⟨w2, z2⟩ := I.cell y c' e
    exact ⟨w2, z2.sameBut hs hcc⟩
  ·obtain ⟨e, n, ne, nf, d⟩ := I.pin p hp
   refine ⟨(hs.2 p.1 ?_).trans e, n, ne, nf, d⟩
   intro q
   rw [q, hoc] at e
   have q' : oc = p.2 := Option.some.inj e
   exact d w' (by rw [<- q']; exact hocd)
theorem store_ok {M : Model} {A : Around} {E : Value -> Shared -> Prop} {i : Nat} {x : Str} {v : V} {u : Value} {Q : Unit -> Shared -> Prop} (I : Inv X pins σ H s) (hN : X.N.Nodup) (hi : X.N[i]? = some x) (hx : Loc X.env.scope x) (r : RelV v u)
  (h : ∀ s', Inv X pins (σ.set i (some v)) H s' -> Q () s') (hf : X.fn x = true \/ X.env.scope.names.lookup x = some .local) : wpAny M A (storeName X.env x u) Q E s :=
 store_ok2 I hN hi hx r (fun s' I' _ => h s' I') hf
theorem Inv.call' {s' : Shared} {ch : List Addr} (I : Inv X pins σ H s) (ho : s'.os = s.os) (u : Un (frs X.stack) ch H H' s.heap s'.heap) (hok : HOk X.prog X.w H' s'.heap) (hg : AllBare s'.gens)
  (hch : ∀ b ∈ ch, (b ∈ X.ex \/ X.s₀.heap.objs.size <= b) /\ b ≠ X.env.locals /\ (∀ x c, X.env.cells.lookup x = some c -> c ≠ b) /\ ∀ p ∈ X.pn ++ pins, p.1 ≠ b) : Inv X pins σ H' s' := by
 obtain ⟨h', g', d', t', o'⟩ := s'
 have e : o' = s.os := ho
 subst e
 exact I.call (g' := g') (t' := t') (d' := d') u hok hg hch
end
noncomputable abbrev XK := Value -> Option Addr -> Hp -> Prop
noncomputable abbrev St := List (Option V)
noncomputable abbrev VK := V -> Hp -> Prop
noncomputable abbrev TE := St -> Hp -> VK -> Prop
noncomputable abbrev TT := St -> Hp -> (Bool -> Hp -> Prop) -> Prop
noncomputable abbrev TA := St -> Hp -> (List V -> Hp -> Prop) -> Prop
structure Ends where
 nx : St -> Hp -> Prop
 rt : VK
 bk : St -> Hp -> Prop := fun _ _ => False
 ct : St -> Hp -> Prop := fun _ _ => False
noncomputable abbrev TS := Ends -> St -> Hp -> Prop
noncomputable def EP (X : Cx) (pins : List (Addr × Obj)) (σ : St) (Q : VK) (u : Value) (s' : Shared) : Prop := ∃ v H', Inv X pins σ H' s' /\ RelV v u /\ Q v H'
noncomputable def TP (X : Cx) (pins : List (Addr × Obj)) (σ : St) (Q : Bool -> Hp -> Prop) (b : Bool) (s' : Shared) : Prop := ∃ H', Inv X pins σ H' s' /\ Q b H'
noncomputable def AP (X : Cx) (pins : List (Addr × Obj)) (σ : St) (Q : List V -> Hp -> Prop) (us : List Value) (s' : Shared) : Prop := ∃ vs H', Inv X pins σ H' s' /\ Vals vs us /\ Q vs H'
noncomputable def SP (X : Cx) (pins : List (Addr × Obj)) (D : Ends) (f : Flow) (s' : Shared) : Prop :=
 match f with
 | .next => ∃ σ' H', Inv X pins σ' H' s' /\ D.nx σ' H'
 | .brk => ∃ σ' H', Inv X pins σ' H' s' /\ D.bk σ' H'
 | .cont => ∃ σ' H', Inv X pins σ' H' s' /\ D.ct σ' H'
 | .ret u => ∃ v σ' H', Inv X pins σ' H' s' /\ RelV v u /\ D.rt v H'
noncomputable def PE (X : Cx) (e : Expr) (t : TE) : Prop :=
 ∀ (pins : List (Addr × Obj)) (s : Shared) (σ : St) (H : Hp) (Q : VK), Inv X pins σ H s -> t σ H Q -> wpAny (model X.prog X.w) X.A (eval e X.env) (EP X pins σ Q) X.xe s
noncomputable def PT (X : Cx) (e : Expr) (t : TT) : Prop :=
 ∀ (pins : List (Addr × Obj)) (s : Shared) (σ : St) (H : Hp) (Q : Bool -> Hp -> Prop), Inv X pins σ H s -> t σ H Q -> wpAny (model X.prog X.w) X.A (isTrue e X.env (eval e X.env)) (TP X pins σ Q) X.xe s
noncomputable def PW (X : Cx) (e : Expr) (t : TT) : Prop :=
 ∀ (whole : Sem Value) (pins : List (Addr × Obj)) (s : Shared) (σ : St) (H : Hp) (Q : Bool -> Hp -> Prop), Inv X pins σ H s -> t σ H Q -> wpAny (model X.prog X.w) X.A (isTrue e X.env whole) (TP X pins σ Q) X.xe s
theorem PW.pt {X : Cx} {e : Expr} {t : TT} (h : PW X e t) : PT X e t := h _
noncomputable def PA (X : Cx) (es : List Expr) (t : TA) : Prop :=
 ∀ (pos : Pos) (pins : List (Addr × Obj)) (s : Shared) (σ : St) (H : Hp) (Q : List V -> Hp -> Prop), Inv X pins σ H s -> t σ H Q -> wpAny (model X.prog X.w) X.A (spliced (backTo pos (starEach es X.env))) (AP X pins σ Q) X.xe s
noncomputable def PS (X : Cx) (st : Stmt) (t : TS) : Prop :=
 ∀ (pins : List (Addr × Obj)) (s : Shared) (σ : St) (H : Hp) (D : Ends), Inv X pins σ H s -> t D σ H -> wpAny (model X.prog X.w) X.A (exec st X.env) (SP X pins D) X.xe s
noncomputable def PSs (X : Cx) (st : List Stmt) (t : TS) : Prop :=
 ∀ (pins : List (Addr × Obj)) (s : Shared) (σ : St) (H : Hp) (D : Ends), Inv X pins σ H s -> t D σ H -> wpAny (model X.prog X.w) X.A (execs st X.env) (SP X pins D) X.xe s
theorem thn {α : Type} {t : Sem α} {Q Q' : α -> Shared -> Prop} {M : Model} {A : Around} {E : Value -> Shared -> Prop} {s : Shared} (h : wpAny M A t Q E s) (hQ : ∀ a s, Q a s -> Q' a s) : wpAny M A t Q' E s := wpAny_mono h hQ fun _ _ x => x
theorem thn3 {α : Type} {t : Sem α} {P R : α -> Shared -> Hp -> Prop} {Q' : α -> Shared -> Prop} {M : Model} {A : Around} {E : Value -> Shared -> Prop} {s : Shared} (h : wpAny M A t (fun a s => ∃ H, P a s H /\ R a s H) E s) (k : ∀ a s H, P a s H -> R a s H -> Q' a s) : wpAny M A t Q' E s := thn h fun a s q => q.elim fun H q => k a s H q.1 q.2
theorem thn4 {α β : Type} {t : Sem α} {P R : α -> Shared -> β -> Hp -> Prop} {Q' : α -> Shared -> Prop} {M : Model} {A : Around} {E : Value -> Shared -> Prop} {s : Shared} (h : wpAny M A t (fun a s => ∃ x H, P a s x H /\ R a s x H) E s) (k : ∀ a s x H, P a s x H -> R a s x H -> Q' a s) : wpAny M A t Q' E s := thn h fun a s q => q.elim fun x q => q.elim fun H q => k a s x H q.1 q.2
theorem thn5 {α β : Type} {t : Sem α} {P R S : α -> Shared -> β -> Hp -> Prop} {Q' : α -> Shared -> Prop} {M : Model} {A : Around} {E : Value -> Shared -> Prop} {s : Shared} (h : wpAny M A t (fun a s => ∃ x H, P a s x H /\ R a s x H /\ S a s x H) E s) (k : ∀ a s x H, P a s x H -> R a s x H -> S a s x H -> Q' a s) : wpAny M A t Q' E s := thn h fun a s q => q.elim fun x q => q.elim fun H q => k a s x H q.1 q.2.1 q.2.2
end L2
namespace L2
open PySem PySem.Spec PyProof.Rows
section
variable {X : Cx}
noncomputable def tVar (i : Nat) : TE := fun σ H Q => ∃ v, σ[i]? = some (some v) /\ Q v H
noncomputable def tC (v : V) : TE := fun _ H Q => Q v H
theorem pe_var {i : Nat} {x : Str} {pos : Pos} (hN : X.N[i]? = some x) (hv : Vis X.env.scope x) (hd : (x == ("__debug__" : Str)) = false := by decide) (hcd : (x == ("__classdict__" : Str)) = false := by decide) : PE X (.Name x pos) (tVar i) := by
 intro pins s σ H Q I h
 obtain ⟨v, e, h⟩ := h
 obtain ⟨m, hn, hl⟩ := I.loc
 obtain ⟨u, r, l⟩ := hl i x v hN e hv
 have fin : EP X pins σ Q u s := ⟨v, H, I, r, h⟩
 rcases l with ⟨hk, hm⟩ | ⟨hk, c, hc, hcell⟩
 ·exact wpAny_Name (wpAny_loadName_local I.ok.kind hk hn hm fin) hd
 ·rcases hk with hk | hk
  ·exact wpAny_Name (wpAny_loadName_cell I.ok.kind hk hc hcell fin) hd
  ·exact wpAny_Name (wpAny_loadName_free I.ok.kind hk hc hcell fin hcd) hd
theorem pe_int {i j pos} : PE X (.Constant (.int i) j pos) (tC (.int i)) := fun _ _ _ H _ I h => wpAny_Constant_int ⟨.int i, H, I.tok _, ⟨_, rfl⟩, h⟩
theorem pe_bl {b j pos} : PE X (.Constant (.bool b) j pos) (tC (.bl b)) := fun _ _ _ H _ I h => Constant_bool ⟨.bl b, H, I, rfl, h⟩
theorem pe_str {x j pos} : PE X (.Constant (.str x) j pos) (tC (.str x)) := fun _ _ _ H _ I h => Calls.Constant_str ⟨.str x, H, I.tok _, ⟨_, rfl⟩, h⟩
noncomputable def Gl (X : Cx) (x : Str) : Prop := X.env.kindOf x = some .globalImplicit
theorem ld_glob {E : Value -> Shared -> Prop} {pins : List (Addr × Obj)} {s : Shared} {σ : St} {H : Hp} {x : Str} {u : Value} {pos : Pos} {Q : Value -> Shared -> Prop} (I : Inv X pins σ H s) (hg : Gl X x) (hm : X.mg x = some u) (h : Q u s)
  (hd : (x == ("__debug__" : Str)) = false := by decide) : wpAny (model X.prog X.w) X.A (eval (.Name x pos) X.env) Q E s :=
 Calls.Name_function_global I.ok.kind hg (Calls.loadGlobal_global (by rw [I.ok.glob]; exact I.mod.glob.keeps I.bk) hm h) hd
theorem ld_blt {E : Value -> Shared -> Prop} {pins : List (Addr × Obj)} {s : Shared} {σ : St} {H : Hp} {x : Str} {u : Value} {pos : Pos} {Q : Value -> Shared -> Prop} (I : Inv X pins σ H s) (hg : Gl X x) (hm : X.mg x = none) (hv : bootBuiltins x = some u) (h : Q u s)
  (hn : x ≠ "__name__" := by decide) (hd : (x == ("__debug__" : Str)) = false := by decide) : wpAny (model X.prog X.w) X.A (eval (.Name x pos) X.env) Q E s := by
 obtain ⟨mb, h1, h2⟩ := I.mod.blt
 exact Calls.Name_function_global I.ok.kind hg (Calls.loadGlobal_builtin (by rw [I.ok.glob]; exact I.mod.glob.keeps I.bk) hm (by rw [I.ok.blt]; exact h1.keeps I.bk) ((h2 x hn).trans hv) h) hd
theorem pe_glob {x : Str} {v : V} {u : Value} {pos : Pos} (hg : Gl X x) (hm : X.mg x = some u) (r : RelV v u) (hd : (x == ("__debug__" : Str)) = false := by decide) : PE X (.Name x pos) (tC v) :=
 fun _ _ _ H _ I h => ld_glob I hg hm ⟨v, H, I, r, h⟩ hd
theorem pe_bltn {x : Str} {v : V} {u : Value} {pos : Pos} (hg : Gl X x) (hm : X.mg x = none) (hv : bootBuiltins x = some u) (r : RelV v u) (hn : x ≠ "__name__" := by decide) (hd : (x == ("__debug__" : Str)) = false := by decide) : PE X (.Name x pos) (tC v) :=
 fun _ _ _ H _ I h => ld_blt I hg hm hv ⟨v, H, I, r, h⟩ hn hd
variable {a b : Expr} {ta tb : TE} {pos : Pos}
noncomputable def PC (X : Cx) (op : CmpOp) (a b : Expr) (t : TE) : Prop :=
 ∀ (pins : List (Addr × Obj)) (s : Shared) (σ : St) (H : Hp) (Q : VK), Inv X pins σ H s -> t σ H Q ->
   wpAny (model X.prog X.w) X.A (eval a X.env) (fun v s₁ => wpAny (model X.prog X.w) X.A (eval b X.env) (fun u s₂ => wpAny (model X.prog X.w) X.A (compareOp op v u) (EP X pins σ Q) X.xe s₂) X.xe s₁) X.xe s
theorem nobehind (b : Expr) {op : CmpOp} (h : op ≠ .In) (h2 : op ≠ .NotIn) : behindInMarks op b = false := by
 have e1 : (op == CmpOp.In) = false := by cases op <;> first | rfl | exact absurd rfl h
 have e2 : (op == CmpOp.NotIn) = false := by cases op <;> first | rfl | exact absurd rfl h2
 cases b <;> simp [behindInMarks, e1, e2]
noncomputable def tB (t : TE) : TT := fun σ H Q => t σ H fun x H1 => ∃ c, x = .bl c /\ Q c H1
theorem pe_cmp {op : CmpOp} {t : TE} (h : PC X op a b t) (h1 : behindInMarks op b = false := by first | exact nobehind _ (by decide) (by decide) | rfl) : PE X (.Compare a [op] [b] pos) t := fun pins s σ H Q I hw => wpAny_Compare1 (h pins s σ H Q I hw) h1
theorem pt_cmp {op : CmpOp} {t : TE} (h : PC X op a b t) (h1 : behindInMarks op b = false := by first | exact nobehind _ (by decide) (by decide) | rfl) : PT X (.Compare a [op] [b] pos) (tB t) := by
 intro pins s σ H Q I hw
 refine wpAny_isTrue_Compare1 (thn (h pins s σ H _ I hw) fun v s1 h1 => thn h1 fun u s2 h2 => thn5 h2 fun c s3 x H1 I1 r1 q1 => ?_) h1
 obtain ⟨d, rfl, q⟩ := q1
 cases r1
 exact wpAny_truthy_bool ⟨H1, I1, q⟩
variable {tA tB' : TT} {rest : List Expr}
noncomputable def tAnd (t u : TT) : TT := fun σ H Q => t σ H fun c H1 => if c = true then u σ H1 Q else Q false H1
noncomputable def tOr (t u : TT) : TT := fun σ H Q => t σ H fun c H1 => if c = true then Q true H1 else u σ H1 Q
noncomputable def tNot (t : TT) : TT := fun σ H Q => t σ H fun c H1 => Q (!c) H1
theorem pw_and1 (ha : PT X a tA) : PW X (.BoolOp .And [a] pos) tA := by
 intro wh pins s σ H Q I h
 refine isTrue_and (thn (ha pins s σ H Q I h) fun c s1 e => ?_)
 cases c with
 | true => exact isTrue_and_nil e
 | false => exact e
theorem pw_or1 (ha : PT X a tA) : PW X (.BoolOp .Or [a] pos) tA := by
 intro wh pins s σ H Q I h
 refine isTrue_or (thn (ha pins s σ H Q I h) fun c s1 e => ?_)
 cases c with
 | false => exact isTrue_or_nil e
 | true => exact e
theorem pw_and (ha : PT X a tA) (hb : PW X (.BoolOp .And (b :: rest) pos) tB') : PW X (.BoolOp .And (a :: b :: rest) pos) (tAnd tA tB') := by
 intro wh pins s σ H Q I h
 refine isTrue_and (thn3 (ha pins s σ H _ I h) fun c s1 H1 I1 q1 => ?_)
 cases c with
 | true => exact hb wh pins s1 σ H1 Q I1 q1
 | false => exact ⟨H1, I1, q1⟩
theorem pw_or (ha : PT X a tA) (hb : PW X (.BoolOp .Or (b :: rest) pos) tB') : PW X (.BoolOp .Or (a :: b :: rest) pos) (tOr tA tB') := by
 intro wh pins s σ H Q I h
 refine isTrue_or (thn3 (ha pins s σ H _ I h) fun c s1 H1 I1 q1 => ?_)
 cases c with
 | true => exact ⟨H1, I1, q1⟩
 | false => exact hb wh pins s1 σ H1 Q I1 q1
theorem pt_not (ha : PT X a tA) : PT X (.UnaryOp .Not a pos) (tNot tA) := by
 intro pins s σ H Q I h
 exact isTrue_not (ha pins s σ H (fun c H1 => Q (!c) H1) I h)
noncomputable def tAndV (ta tb : TE) : TE := fun σ H Q => ta σ H fun x H1 => ∃ c, x = .bl c /\ if c = true then tb σ H1 Q else Q (.bl false) H1
noncomputable def tNotV (ta : TE) : TE := fun σ H Q => ta σ H fun x H1 => ∃ c, x = .bl c /\ Q (.bl (!c)) H1
theorem pe_one {op} {t : TE} (h : PE X a t) : PE X (.BoolOp op [a] pos) t := fun pins s σ H Q I hw => BoolOp_one (h pins s σ H Q I hw)
theorem pe_and (ha : PE X a ta) (hb : PE X (.BoolOp .And (b :: rest) pos) tb) : PE X (.BoolOp .And (a :: b :: rest) pos) (tAndV ta tb) := by
 intro pins s σ H Q I h
 refine BoolOp_and (thn5 (ha pins s σ H _ I h) fun v s1 x H1 I1 r1 q1 => ?_)
 obtain ⟨c, rfl, q1⟩ := q1
 cases r1
 refine wpAny_truthy_bool ?_
 cases c with
 | true => exact hb pins s1 σ H1 Q I1 q1
 | false => exact ⟨.bl false, H1, I1, rfl, q1⟩
theorem pe_not (ha : PE X a ta) : PE X (.UnaryOp .Not a pos) (tNotV ta) := by
 intro pins s σ H Q I h
 refine UnaryOp_ (thn5 (ha pins s σ H _ I h) fun v s1 x H1 I1 r1 q1 => ?_)
 obtain ⟨c, rfl, q1⟩ := q1
 cases r1
 exact not_of (wpAny_truthy_bool ⟨.bl (!c), H1, I1, rfl, q1⟩)
end
end L2
namespace L2
open PySem PySem.Spec PyProof.Rows
noncomputable def SqL (K : PySem.W.Frag) (H : Hp) (a : Addr) (xs : List V) : Prop :=
 Rd H a (.lst xs) \/
  ∃ (o : Obj) (its : Array Value) (n : Nat), K.lookup a = some o /\ o.cls = .type "list" /\ o.dict = none /\ o.data = .seq its n /\ its.size <= sizeLine /\ Vals xs its.toList
noncomputable def SqT (K : PySem.W.Frag) (H : Hp) (a : Addr) (xs : List V) : Prop :=
 Rd H a (.tup xs) \/
  ∃ (o : Obj) (its : Array Value) (n : Nat), K.lookup a = some o /\ o.cls = .type "tuple" /\ o.data = .seq its n /\ its.size <= sizeLine /\ Vals xs its.toList
noncomputable def absV : Value -> Option V
 | .none => some .non
 | .bool b => some (.bl b)
 | .int i _ => some (.int i)
 | .str x _ => some (.str x)
 | .bytes b _ => some (.byt b)
 | .float b _ => some (.flt b)
 | .ref a => some (.ref a)
 | .type n => some (.ty n)
 | _ => none
theorem RelV.abs {x : V} {u : Value} (r : RelV x u) : absV u = some x := by
 cases x with
 | non => cases r; rfl
 | bl _ => cases r; rfl
 | int _ => obtain ⟨t, rfl⟩ := r; rfl
 | str _ => obtain ⟨t, rfl⟩ := r; rfl
 | byt _ => obtain ⟨t, rfl⟩ := r; rfl
 | flt _ => obtain ⟨t, rfl⟩ := r; rfl
 | ref _ => cases r; rfl
 | ty _ => cases r; rfl
theorem RelV.inj {x y : V} {u : Value} (r : RelV x u) (q : RelV y u) : x = y := Option.some.inj (r.abs.symm.trans q.abs)
theorem Vals.inj : ∀ {xs ys : List V} {us : List Value}, Vals xs us -> Vals ys us -> xs = ys := by
 intro xs ys us h
 induction h generalizing ys with
 | nil => intro k; cases k; rfl
 | cons r t ih =>
  intro k
  cases k with
  | cons r' t' => rw [r.inj r', ih t']
section
variable {X : Cx} {pins : List (Addr × Obj)} {σ : St} {H : Hp} {s : Shared} {a : Addr} {xs ys : List V}
theorem SqL.of {K : PySem.W.Frag} (h : H a = some (.lst xs)) : SqL K H a xs := .inl (.inl h)
theorem Inv.list (I : Inv X pins σ H s) (h : SqL X.K H a xs) : ∃ its : List Value, Vals xs its /\ PlainL s.heap a its.toArray /\ xs.length <= sizeLine := by
 rcases h with h | ⟨o, its, n, hk, hc, hd, hs, hz, r⟩
 ·obtain ⟨z, its, n, r, e⟩ := h.ok I.hok
  exact ⟨its, r, ⟨_, n, e, rfl, rfl, rfl⟩, z⟩
 ·refine ⟨its.toList, r, ⟨o, n, I.kIn a o hk, hc, hd, by simpa using hs⟩, ?_⟩
  have e := r.length
  simp only [Array.length_toList] at e
  lia
theorem Inv.tuple (I : Inv X pins σ H s) (h : SqT X.K H a xs) : ∃ its : List Value, Vals xs its /\ IsTup s.heap a its.toArray /\ xs.length <= sizeLine := by
 rcases h with h | ⟨o, its, n, hk, hc, hs, hz, r⟩
 ·obtain ⟨z, its, r, p⟩ := h.ok I.hok
  exact ⟨its, r, p, z⟩
 ·refine ⟨its.toList, r, ⟨o, I.kIn a o hk, hc, n, by simpa using hs⟩, ?_⟩
  have e := r.length
  simp only [Array.length_toList] at e
  lia
theorem Inv.list_inj (I : Inv X pins σ H s) (h : SqL X.K H a xs) (h' : SqL X.K H a ys) : xs = ys := by
 obtain ⟨its, r, ⟨o, n, e, _, _, d⟩, _⟩ := I.list h
 obtain ⟨its', r', ⟨o', n', e', _, _, d'⟩, _⟩ := I.list h'
 rw [e] at e'; cases e'
 rw [d] at d'
 injection d' with d1 _
 have : its = its' := by simpa using congrArg Array.toList d1
 subst this
 exact r.inj r'
theorem Inv.tuple_inj (I : Inv X pins σ H s) (h : SqT X.K H a xs) (h' : SqT X.K H a ys) : xs = ys := by
 obtain ⟨its, r, ⟨o, e, _, n, d⟩, _⟩ := I.tuple h
 obtain ⟨its', r', ⟨o', e', _, n', d'⟩, _⟩ := I.tuple h'
 rw [e] at e'; cases e'
 rw [d] at d'
 injection d' with d1 _
 have : its = its' := by simpa using congrArg Array.toList d1
 subst this
 exact r.inj r'
end
noncomputable abbrev Cx.wish (X : Cx) (E : Value -> Shared -> Prop) : Cx := { X with xe := E }
noncomputable abbrev Cx.nox (X : Cx) : Cx := X.wish fun _ _ => False
theorem Cx.Ok.wish {X : Cx} (ok : X.Ok) (E : Value -> Shared -> Prop) : (X.wish E).Ok :=
 ⟨ok.mod, ok.kind, ok.glob, ok.blt, ok.above, ok.inj, ok.has, ok.cab, ok.hd, ok.frames, ok.stk, ok.exf, ok.bs, ok.bsz, ok.noex, ok.exfs, ok.funs, ok.frf⟩
theorem Cx.Ok.unwish {X : Cx} {E : Value -> Shared -> Prop} (ok : (X.wish E).Ok) : X.Ok :=
 ⟨ok.mod, ok.kind, ok.glob, ok.blt, ok.above, ok.inj, ok.has, ok.cab, ok.hd, ok.frames, ok.stk, ok.exf, ok.bs, ok.bsz, ok.noex, ok.exfs, ok.funs, ok.frf⟩
section
variable {X : Cx} {pins : List (Addr × Obj)} {σ : St} {H : Hp} {s : Shared} {E : Value -> Shared -> Prop}
theorem Inv.wish (I : Inv X pins σ H s) (E : Value -> Shared -> Prop) : Inv (X.wish E) pins σ H s := ⟨I.ok.wish E, I.os, I.bare, I.base, I.loc, I.cell, I.free, I.freeC, I.pin, I.hok, I.len⟩
theorem Inv.unwish (I : Inv (X.wish E) pins σ H s) : Inv X pins σ H s := ⟨I.ok.unwish, I.os, I.bare, I.base, I.loc, I.cell, I.free, I.freeC, I.pin, I.hok, I.len⟩
theorem SP.unwish {D : Ends} {f : Flow} {s' : Shared} (h : SP (X.wish E) pins D f s') : SP X pins D f s' := by
 cases f with
 | next => obtain ⟨σ', H', I, q⟩ := h; exact ⟨σ', H', I.unwish, q⟩
 | brk => obtain ⟨σ', H', I, q⟩ := h; exact ⟨σ', H', I.unwish, q⟩
 | cont => obtain ⟨σ', H', I, q⟩ := h; exact ⟨σ', H', I.unwish, q⟩
 | ret u => obtain ⟨v, σ', H', I, r, q⟩ := h; exact ⟨v, σ', H', I.unwish, r, q⟩
theorem PSs.nox {st : List Stmt} {t : TS} (h : PSs X.nox st t) : PSs X st t := fun pins s σ H D I hw =>
 wpAny_mono (h pins s σ H D (I.wish _) hw) (fun _ _ q => q.unwish) fun _ _ z => False.elim z
end
section
variable {X : Cx} {st : Stmt} {rest : List Stmt} {t u : TS} {e : Expr} {te : TE} {pos : Pos}
noncomputable def tNext : TS := fun D σ H => D.nx σ H
noncomputable def tSeq (t u : TS) : TS := fun D σ H => t { D with nx := u D } σ H
theorem pss_nil : PSs X [] tNext := fun _ _ σ H _ I h => wpAny_execs_nil ⟨σ, H, I, h⟩
theorem pss_cons (h1 : PS X st t) (h2 : PSs X rest u) : PSs X (st :: rest) (tSeq t u) := by
 intro pins s σ H D I h
 refine wpAny_execs_cons (thn (h1 pins s σ H { D with nx := u D } I h) fun f s1 q => ?_)
 cases f with
 | next =>
   obtain ⟨σ', H', I', q⟩ := q
   exact h2 pins s1 σ' H' D I' q
 | ret v => exact q
 | brk => exact q
 | cont => exact q
theorem pss_one (h1 : PS X st t) : PSs X [st] t := by
 intro pins s σ H D I h
 refine wpAny_execs_cons (thn (h1 pins s σ H D I h) fun f s1 q => ?_)
 cases f with
 | next => exact wpAny_execs_nil q
 | ret v => exact q
 | brk => exact q
 | cont => exact q
theorem Inv.quiet {pins : List (Addr × Obj)} {σ : St} {H : Hp} {s : Shared} (I : Inv X pins σ H s) : interactive X.env = false := by simp [interactive, I.ok.kind]
noncomputable def tDrop (te : TE) : TS := fun D σ H => te σ H fun _ H1 => D.nx σ H1
theorem ps_expr (he : PE X e te) (hs : swapsWith e none pos.line X.env = pure false := by rfl) : PS X (.Expr e pos) (tDrop te) := by
 intro pins s σ H D I h
 exact wpAny_Expr_any (thn5 (he pins s σ H _ I h) fun v s1 x H1 I1 r1 q1 => ⟨σ, H1, I1, q1⟩) I.quiet hs
noncomputable def tRet (te : TE) : TS := fun D σ H => te σ H D.rt
theorem ps_ret (he : PE X e te) : PS X (.Return (some e) pos) (tRet te) := by
 intro pins s σ H D I h
 exact wpAny_Return_some (thn5 (he pins s σ H _ I h) fun v s1 x H1 I1 r1 q1 => ⟨x, σ, H1, I1, r1, q1⟩)
noncomputable def tIfS (c : TT) (t u : TS) : TS := fun D σ H => c σ H fun b H1 => if b = true then t D σ H1 else u D σ H1
theorem ps_if {c : Expr} {a b : List Stmt} {tc : TT} (hc : PT X c tc) (ha : PSs X a t) (hb : PSs X b u) : PS X (.If c a b pos) (tIfS tc t u) := by
 intro pins s σ H D I h
 refine wpAny_If (thn3 (hc pins s σ H _ I h) fun d s1 H1 I1 q1 => ?_)
 cases d with
 | true => exact ha pins s1 σ H1 D I1 q1
 | false => exact hb pins s1 σ H1 D I1 q1
end
noncomputable abbrev TG := V -> St -> Hp -> (St -> Hp -> Prop) -> Prop
noncomputable abbrev TGs := List V -> St -> Hp -> (St -> Hp -> Prop) -> Prop
noncomputable def PG (X : Cx) (target : Expr) (t : TG) : Prop :=
 ∀ (pins : List (Addr × Obj)) (s : Shared) (σ : St) (H : Hp) (v : V) (u : Value) (Q : St -> Hp -> Prop), Inv X pins σ H s -> RelV v u -> t v σ H Q ->
   wpAny (model X.prog X.w) X.A (assign target X.env u) (fun _ s' => ∃ σ' H', Inv X pins σ' H' s' /\ Q σ' H') X.xe s
noncomputable def PGs (X : Cx) (ts : List Expr) (t : TGs) : Prop :=
 ∀ (pins : List (Addr × Obj)) (s : Shared) (σ : St) (H : Hp) (vs : List V) (us : List Value) (Q : St -> Hp -> Prop), Inv X pins σ H s -> Vals vs us -> t vs σ H Q ->
   wpAny (model X.prog X.w) X.A (assignInOrder ((assignEach ts X.env).map (·.2)) us) (fun _ s' => ∃ σ' H', Inv X pins σ' H' s' /\ Q σ' H') X.xe s
section
variable {X : Cx} {pos : Pos}
noncomputable def gName (i : Nat) : TG := fun v σ H Q => Q (σ.set i (some v)) H
theorem pg_name {i : Nat} {x : Str} (hN : X.N.Nodup) (hi : X.N[i]? = some x) (hx : Loc X.env.scope x) (hf : X.fn x = true \/ X.env.scope.names.lookup x = some .local := by first | exact .inl rfl | exact .inr rfl | assumption) : PG X (.Name x pos) (gName i) := by
 intro pins s σ H v u Q I r h
 exact wpAny_assign_Name (store_ok I hN hi hx r (fun s' I' => ⟨_, H, I', h⟩) hf)
noncomputable def gNil : TGs := fun vs σ H Q => vs = [] /\ Q σ H
noncomputable def gCons (t : TG) (u : TGs) : TGs := fun vs σ H Q => ∃ v r, vs = v :: r /\ t v σ H fun σ' H' => u r σ' H' Q
theorem pgs_nil : PGs X [] gNil := by
 intro pins s σ H vs us Q I r h
 obtain ⟨e, h⟩ := h
 subst e
 cases r
 exact assignInOrder_nil ⟨σ, H, I, h⟩
theorem pgs_cons {e : Expr} {es : List Expr} {t : TG} {u : TGs} (h1 : PG X e t) (h2 : PGs X es u)
  (hs : (assignEach (e :: es) X.env).map (·.2) = assign e X.env :: (assignEach es X.env).map (·.2) := by rfl) : PGs X (e :: es) (gCons t u) := by
 intro pins s σ H vs us Q I r h
 obtain ⟨v, vr, e1, h⟩ := h
 subst e1
 cases r with
 | cons r rr =>
   rw [hs]
   refine assignInOrder_cons (thn4 (h1 pins s σ H _ _ _ I r h) fun _ s1 σ1 H1 I1 q1 => ?_)
   exact h2 pins s1 σ1 H1 _ _ Q I1 rr q1
noncomputable def gTup (K : PySem.W.Frag) (n : Nat) (t : TGs) : TG := fun v σ H Q => ∃ a xs, v = .ref a /\ SqT K H a xs /\ xs.length = n /\ t xs σ H Q
theorem pg_tup {es : List Expr} {k : Nat} {t : TGs} {n : Nat} (hc : X.calm = true) (h : PGs X es t)
  (hn : (assignEach es X.env).length = n := by rfl) (hst : (assignEach es X.env).findIdx? (·.1) = none := by rfl) : PG X (.Tuple es k pos) (gTup X.K n t) := by
 intro pins s σ H v u Q I r hw
 obtain ⟨a, xs, e1, hq, hl, hw⟩ := hw
 subst e1
 cases r
 obtain ⟨its, rv, ht, hz⟩ := I.tuple hq
 refine assign_Tuple_tuple (I.ok.hd hc) ht (by simp [hn, <- hl, rv.length]) hst fun h' hx => ?_
 have I1 : Inv X pins σ H { s with heap := h' } := I.kept (t' := s.toks) fun b o e => hx b o (Nat.ne_of_lt (Heap.lt_size e)) e
 exact h pins _ σ H xs _ Q I1 (by simpa using rv) hw
noncomputable def tAsg (te : TE) (g : TG) : TS := fun D σ H => te σ H fun x H1 => g x σ H1 D.nx
theorem ps_set {i : Nat} {x : Str} {e : Expr} {te : TE} {pos' : Pos} (hN : X.N.Nodup) (hi : X.N[i]? = some x) (hx : Loc X.env.scope x) (he : PE X e te) (hs : swapsWith e (some (.Name x pos')) pos.line X.env = pure false := by rfl) (hf : X.fn x = true \/ X.env.scope.names.lookup x = some .local := by first | exact .inl rfl | exact .inr rfl | assumption) :
  PS X (.Assign [.Name x pos'] e pos) (tAsg te (gName i)) := by
 intro pins s σ H D I h
 refine wpAny_Assign_Name (thn5 (he pins s σ H _ I h) fun v s1 y H1 I1 r1 q1 => ?_) hs
 exact store_ok I1 hN hi hx r1 (fun s2 I2 => ⟨_, H1, I2, q1⟩) hf
end
section
variable {X : Cx} {pos : Pos}
noncomputable def tWhile (c : TT) (tb : TS) : TS := fun D σ H => ∃ W : Nat -> St -> Hp -> Prop, (∃ m, W m σ H) /\ ∀ m σ H, W m σ H ->
 c σ H fun b H1 => if b = true then ∃ N : St -> Hp -> Prop, (∀ σ' H', N σ' H' -> ∃ m', m' < m /\ W m' σ' H') /\ tb { D with nx := N, ct := N, bk := D.nx } σ H1 else D.nx σ H1
theorem ps_while {c : Expr} {body : List Stmt} {tc : TT} {tb : TS} (hp : PassesOwn (model X.prog X.w) X.A X.env X.xe) (hc : PT X c tc) (hb : PSs X body tb) : PS X (.While c body [] pos) (tWhile tc tb) := by
 intro pins s σ H D I h
 obtain ⟨W, ⟨m0, w0⟩, turn⟩ := h
 refine wpAny_While (codeAny_whileLoop (fun n s' => ∃ σ' H', Inv X pins σ' H' s' /\ W n σ' H') ?_ m0 ⟨σ, H, I, w0⟩)
 rintro n s1 ⟨σ1, H1, I1, w1⟩
 refine wpAny_passesOwn hp (thn3 (hc pins s1 σ1 H1 _ I1 (turn n σ1 H1 w1)) fun b s2 H2 I2 q2 => ?_)
 cases b with
 | true =>
   obtain ⟨N, hN, q2⟩ := q2
   rw [if_pos rfl]
   refine wpAny_passesOwn hp (thn (hb pins s2 σ1 H2 _ I2 q2) fun f s3 q3 => ?_)
   cases f with
   | next =>
     obtain ⟨σ3, H3, I3, n3⟩ := q3
     obtain ⟨m', hm, w3⟩ := hN σ3 H3 n3
     exact ⟨m', hm, σ3, H3, I3, w3⟩
   | cont =>
     obtain ⟨σ3, H3, I3, n3⟩ := q3
     obtain ⟨m', hm, w3⟩ := hN σ3 H3 n3
     exact ⟨m', hm, σ3, H3, I3, w3⟩
   | brk => exact q3
   | ret v => exact q3
 | false =>
   rw [if_neg Bool.false_ne_true]
   exact wpAny_execs_nil ⟨σ1, H2, I2, q2⟩
end
structure It where
 go : Nat -> Hp -> Prop
 yld : Nat -> Hp -> V -> Hp -> Prop
 stop : Nat -> Hp -> Prop
noncomputable def FpOk (X : Cx) (pins : List (Addr × Obj)) (H : Hp) (b : Addr) : Prop :=
 H b = none /\ b ≠ X.env.locals /\ b ∉ X.fs /\ (b ∈ X.ex \/ X.s₀.heap.objs.size <= b) /\ (∀ x c, X.env.cells.lookup x = some c -> c ≠ b) /\ ∀ p ∈ X.pn ++ pins, p.1 ≠ b
theorem Inv.fpOk {X : Cx} {pins : List (Addr × Obj)} {σ : St} {H H' : Hp} {s : Shared} {b : Addr} (I : Inv X pins σ H s) (hb : s.heap.objs.size <= b) (hn : H' b = none) : FpOk X pins H' b := by
 refine ⟨hn, Nat.ne_of_gt (Nat.lt_of_lt_of_le I.lt hb), I.nofs hb, .inr (Nat.le_trans I.sz hb), fun x c e z => ?_, fun p hp z => ?_⟩
 ·obtain ⟨v, q⟩ := I.cell x c e
  exact absurd (Nat.lt_of_lt_of_le q.lt (by rw [z]; exact hb)) (Nat.lt_irrefl _)
 ·exact absurd (Nat.lt_of_lt_of_le (Heap.lt_size (I.pin p hp).1) (by rw [z]; exact hb)) (Nat.lt_irrefl _)
noncomputable abbrev calmG (X : Cx) : Prop := X.calm = true
structure TurnG (gd : Cx -> Prop) (P : Program) (w : World) (K : PySem.W.Frag) (tg : Expr) (J : It) (fp : List Addr) (it : Addr) (tn : Nat -> Heap -> Prop) : Prop where
 mem : it ∈ fp
 obj : ∀ i h, tn i h -> ∀ b ∈ fp, ∃ o, h.get? b = some o /\ ∀ v, o.data ≠ .cell v
 keep : ∀ i h h', tn i h -> (∀ b ∈ fp, ∀ o, h.get? b = some o -> h'.get? b = some o) -> tn i h'
 item : ∀ (X : Cx), X.prog = P -> X.w = w -> X.K = K -> gd X -> ∀ (i : Nat) (pins : List (Addr × Obj)) (s : Shared) (σ : St) (H : Hp) (E : Value -> Shared -> Prop), Inv X pins σ H s -> (∀ b ∈ fp, FpOk X pins H b) -> tn i s.heap -> J.go i H ->
  wpAny (model P w) X.A (pyNext (.ref it)) (fun r s1 => ∃ u, r = some u /\
   wpAny (model P w) X.A (letOwnedTupleGo tg (.ref it) u) (fun _ s2 => ∃ x H', Inv X pins σ H' s2 /\ RelV x u /\ J.yld i H x H' /\ tn (i + 1) s2.heap /\ ∀ b ∈ fp, H' b = none) E s1) E s
 done : ∀ (X : Cx), X.prog = P -> X.w = w -> X.K = K -> gd X -> ∀ (i : Nat) (pins : List (Addr × Obj)) (s : Shared) (σ : St) (H : Hp) (E : Value -> Shared -> Prop), Inv X pins σ H s -> (∀ b ∈ fp, FpOk X pins H b) -> tn i s.heap -> J.stop i H ->
  wpAny (model P w) X.A (pyNext (.ref it)) (fun r s1 => r = none /\ Inv X pins σ H s1) E s
 self : ∀ (A : Around) (i : Nat) (s : Shared) (Q : Value -> Shared -> Prop) (E : Value -> Shared -> Prop), tn i s.heap -> Q (.ref it) s -> wpAny (model P w) A (pyIter (.ref it)) Q E s
noncomputable abbrev Turn := TurnG calmG
noncomputable abbrev TI := St -> Hp -> (It -> Hp -> Prop) -> Prop
noncomputable def PIEG (gd : Cx -> Prop) (X : Cx) (pins : List (Addr × Obj)) (σ : St) (tg : Expr) (R : It -> Hp -> Prop) (itv : Value) (s2 : Shared) : Prop :=
 ∃ (it : Addr) (fp : List Addr) (tn : Nat -> Heap -> Prop) (J : It) (H' : Hp), itv = .ref it /\ Inv X pins σ H' s2 /\ TurnG gd X.prog X.w X.K tg J fp it tn /\ tn 0 s2.heap /\ (∀ b ∈ fp, FpOk X pins H' b) /\ R J H'
noncomputable abbrev PIE := PIEG calmG
noncomputable def PIG (gd : Cx -> Prop) (X : Cx) (tg iter : Expr) (wi : TI) : Prop :=
 ∀ (pins : List (Addr × Obj)) (s : Shared) (σ : St) (H : Hp) (R : It -> Hp -> Prop), Inv X pins σ H s -> wi σ H R ->
   wpAny (model X.prog X.w) X.A (eval iter X.env) (fun v s1 => wpAny (model X.prog X.w) X.A (pyIter v) (PIEG gd X pins σ tg R) X.xe s1) X.xe s
noncomputable abbrev PI := PIG calmG
theorem go_of {M : Model} {A : Around} {E : Value -> Shared -> Prop} {s : Shared} {tg : Expr} {it : Addr} {u : Value} {o : Obj} {n : String} {vs : Array Value} {Q : Unit -> Shared -> Prop} (ho : s.heap.get? it = some o) (hc : o.cls = .type n) (hd : o.data = .fields vs)
  (hn : ["enumerate", "zip", "dict_itemiterator", "dict_reverseitemiterator", "odict_iterator", "itertools.zip_longest", "itertools.pairwise"].contains n = false) (hQ : Q () s) : wpAny M A (letOwnedTupleGo tg (.ref it) u) Q E s := by
 unfold letOwnedTupleGo
 cases tg <;> first
  | exact wpAny_pure hQ
  | (cases u <;> first
    | exact wpAny_pure hQ
    | (refine wpAny_bind (wpAny_load ho ?_)
       rw [hc, hd]
       show wpAny M A (if (["enumerate", "zip", "dict_itemiterator", "dict_reverseitemiterator", "odict_iterator", "itertools.zip_longest", "itertools.pairwise"].contains n && vs[0]? == some (rawInt _)) = true then _ else _) Q E s
       rw [if_neg (by intro h; rw [hn, Bool.false_and] at h; cases h)]
       exact wpAny_pure hQ))
noncomputable def Itl (K : PySem.W.Frag) (a : Addr) : It :=
 ⟨fun i H => ∃ xs x, SqL K H a xs /\ xs[i]? = some x, fun i H x H' => H' = H /\ ∀ xs, SqL K H a xs -> xs[i]? = some x, fun i H => ∃ xs, SqL K H a xs /\ xs.length <= i⟩
noncomputable def Itt (K : PySem.W.Frag) (a : Addr) : It :=
 ⟨fun i H => ∃ xs x, SqT K H a xs /\ xs[i]? = some x, fun i H x H' => H' = H /\ ∀ xs, SqT K H a xs -> xs[i]? = some x, fun i H => ∃ xs, SqT K H a xs /\ xs.length <= i⟩
noncomputable def Itr (lo : Int) (n : Nat) : It := ⟨fun i _ => i < n, fun i H x H' => H' = H /\ x = .int (lo + i), fun i _ => n <= i⟩
theorem turn_list {P : Program} {w : World} {K : PySem.W.Frag} {tg : Expr} (a it : Addr) : Turn P w K tg (Itl K a) [it] it (fun i h => h.IsListIter it a i) where
 mem := by simp
 obj := fun i h st b hb => by
  have e : b = it := by simpa using hb
  subst e
  obtain ⟨o, e, c, d⟩ := st
  exact ⟨o, e, fun v z => by rw [d] at z; cases z⟩
 keep := fun i h h' st k => st.at fun o e => k it (by simp) o e
 item := by
  intro X hP hw hK hc i pins s σ H E I hf st hg
  subst hP hw hK
  obtain ⟨xs, x, hq, hx⟩ := hg
  obtain ⟨its, rv, p, hz⟩ := I.list hq
  obtain ⟨u, hu, ru⟩ := rv.get hx
  obtain ⟨f0, f1, f2, f3, f4, f5⟩ := hf it (by simp)
  refine wpAny_pyNext_list_item st p.isList (x := u) (by simpa using hu) fun h' st' sb => ?_
  have I1 : Inv X pins σ H { s with heap := h' } := I.turned (t' := s.toks) (fun b o hb e => (sb.2 b hb).trans e) f0 f1 f3 f4 f5
  obtain ⟨o, e, c, d⟩ := id st'
  exact ⟨u, rfl, go_of (s := { s with heap := h' }) e c d (by decide) ⟨x, H, I1, ru, ⟨rfl, fun ys hy => by rw [I.list_inj hy hq]; exact hx⟩, st', fun b hb => (hf b hb).1⟩⟩
 done := by
  intro X hP hw hK hc i pins s σ H E I hf st hg
  subst hP hw hK
  obtain ⟨xs, hq, hx⟩ := hg
  obtain ⟨its, rv, p, hz⟩ := I.list hq
  obtain ⟨f0, f1, f2, f3, f4, f5⟩ := hf it (by simp)
  have hl := rv.length
  exact wpAny_pyNext_list_end (I.ok.hd hc) st p.isList (by simp; lia) fun h' eb => ⟨rfl, I.turned (t' := s.toks) (fun b o hb e => eb b o hb e) f0 f1 f3 f4 f5⟩
 self := fun _ _ _ _ _ st h => wpAny_pyIter_listiter st h
theorem turn_tuple {P : Program} {w : World} {K : PySem.W.Frag} {tg : Expr} (a it : Addr) : Turn P w K tg (Itt K a) [it] it (fun i h => h.IsTupleIter it a i) where
 mem := by simp
 obj := fun i h st b hb => by
  have e : b = it := by simpa using hb
  subst e
  obtain ⟨o, e, c, d⟩ := st
  exact ⟨o, e, fun v z => by rw [d] at z; cases z⟩
 keep := fun i h h' st k => st.at fun o e => k it (by simp) o e
 item := by
  intro X hP hw hK hc i pins s σ H E I hf st hg
  subst hP hw hK
  obtain ⟨xs, x, hq, hx⟩ := hg
  obtain ⟨its, rv, p, hz⟩ := I.tuple hq
  obtain ⟨u, hu, ru⟩ := rv.get hx
  obtain ⟨f0, f1, f2, f3, f4, f5⟩ := hf it (by simp)
  refine wpAny_pyNext_tuple_item st (show s.heap.IsTuple a its.toArray from p) (x := u) (by simpa using hu) fun h' st' sb => ?_
  have I1 : Inv X pins σ H { s with heap := h' } := I.turned (t' := s.toks) (fun b o hb e => (sb.2 b hb).trans e) f0 f1 f3 f4 f5
  obtain ⟨o, e, c, d⟩ := id st'
  exact ⟨u, rfl, go_of (s := { s with heap := h' }) e c d (by decide) ⟨x, H, I1, ru, ⟨rfl, fun ys hy => by rw [I.tuple_inj hy hq]; exact hx⟩, st', fun b hb => (hf b hb).1⟩⟩
 done := by
  intro X hP hw hK hc i pins s σ H E I hf st hg
  subst hP hw hK
  obtain ⟨xs, hq, hx⟩ := hg
  obtain ⟨its, rv, p, hz⟩ := I.tuple hq
  obtain ⟨f0, f1, f2, f3, f4, f5⟩ := hf it (by simp)
  have hl := rv.length
  exact wpAny_pyNext_tuple_end (I.ok.hd hc) st (show s.heap.IsTuple a its.toArray from p) (by simp; lia) fun h' eb => ⟨rfl, I.turned (t' := s.toks) (fun b o hb e => eb b o hb e) f0 f1 f3 f4 f5⟩
 self := fun _ _ _ _ _ st h => wpAny_pyIter_tupleiter st h
theorem turn_range {P : Program} {w : World} {K : PySem.W.Frag} {tg : Expr} (it : Addr) (lo : Int) (n : Nat) : Turn P w K tg (Itr lo n) [it] it (fun i h => IsRangeIter h it (lo + (i : Nat) * 1) ((n : Int) - (i : Nat)) 1) where
 mem := by simp
 obj := fun i h st b hb => by
  have e : b = it := by simpa using hb
  subst e
  exact ⟨_, st, fun v z => by
   have z' : Data.fields _ = Data.cell v := z
   cases z'⟩
 keep := fun i h h' st k => k it (by simp) _ st
 item := by
  intro X hP hw hK hc i pins s σ H E I hf st hg
  subst hP hw hK
  obtain ⟨f0, f1, f2, f3, f4, f5⟩ := hf it (by simp)
  have W := Walks.range (prog := X.prog) (w := X.w) (I.ok.hd hc) it lo 1 n
  refine W.item i s _ _ hg st fun v h' tk hv st' kk => ?_
  obtain ⟨t, rfl⟩ := hv
  have I1 : Inv X pins σ H { s with heap := h', toks := tk } := I.turned (fun b o hb e => kk b o (by simpa using hb) e) f0 f1 f3 f4 f5
  refine ⟨_, rfl, go_of (s := { s with heap := h', toks := tk }) (n := "range_iterator") st' rfl rfl (by decide) ⟨.int (lo + i), H, I1, ⟨t, ?_⟩, ⟨rfl, rfl⟩, st', fun b hb => (hf b hb).1⟩⟩
  rw [Int.mul_one]
 done := by
  intro X hP hw hK hc i pins s σ H E I hf st hg
  subst hP hw hK
  obtain ⟨f0, f1, f2, f3, f4, f5⟩ := hf it (by simp)
  exact wpAny_pyNext_range_end (I.ok.hd hc) st (by have : n <= i := hg; lia) fun h' eb => ⟨rfl, I.turned (t' := s.toks) (fun b o hb e => eb b o hb e) f0 f1 f3 f4 f5⟩
 self := fun _ _ _ _ _ st h => wpAny_pyIter_rangeiter st h
end L2
namespace L2
open PySem PySem.Spec PyProof.Rows
section
variable {X : Cx} {tg : Expr}
theorem range_it {pins : List (Addr × Obj)} {σ : St} {H : Hp} {s : Shared} {R : It -> Hp -> Prop} {E : Value -> Shared -> Prop} {lo hi : Int} {t u v : Tok} {tk : Nat} (I : Inv X pins σ H s) (h1 : -(2 ^ 62) <= lo) (h2 : lo < 2 ^ 62) (h3 : -(2 ^ 62) <= hi) (h4 : hi < 2 ^ 62)
  (q : R (Itr lo (hi - lo).toNat) H) : wpAny (model X.prog X.w) X.A (pyIter (.ref s.heap.objs.size)) (PIE X pins σ tg R) E { s with heap := s.heap.push { cls := .type "range", data := .fields #[.int lo t, .int hi u, .int 1 v] }, toks := tk } := by
 refine wpAny_pyIter_range (IsRange.new ..) (small_one h1 h2 h3 h4) ?_
 have I1 : Inv X pins σ H { s with heap := s.heap.push { cls := .type "range", data := .fields #[.int lo t, .int hi u, .int 1 v] }, toks := tk } := I.kept fun b o e => Heap.get?_push_of_some _ e
 refine ⟨(s.heap.push { cls := .type "range", data := .fields #[.int lo t, .int hi u, .int 1 v] }).objs.size, [(s.heap.push { cls := .type "range", data := .fields #[.int lo t, .int hi u, .int 1 v] }).objs.size], _, _, H, rfl,
  I1.kept (t' := tk) fun b o e => Heap.get?_push_of_some _ e, turn_range _ lo (hi - lo).toNat, ?_, fun b hb => ?_, q⟩
 ·have e1 : lo + ((0 : Nat) : Int) * 1 = lo := by simp
  have e2 : (((hi - lo).toNat : Nat) : Int) - ((0 : Nat) : Int) = Builtin.Range.rangeSize lo hi 1 := by rw [rangeSize_one]; split <;> lia
  show IsRangeIter _ _ (lo + ((0 : Nat) : Int) * 1) ((((hi - lo).toNat : Nat) : Int) - ((0 : Nat) : Int)) 1
  rw [e1, e2]
  exact Heap.get?_push_size _ rfl
 ·have e : b = (s.heap.push { cls := .type "range", data := .fields #[.int lo t, .int hi u, .int 1 v] }).objs.size := by simpa using hb
  subst e
  exact I1.fpOk (Nat.le_refl _) (I1.hok.fresh (Nat.le_refl _))
noncomputable def iRng1 (ta : TA) : TI := fun σ H R => ta σ H fun vs H1 => ∃ j : Int, vs = [.int j] /\ -(2 ^ 62) <= j /\ j < 2 ^ 62 /\ R (Itr 0 j.toNat) H1
theorem pi_range1 {a : Expr} {ta : TA} {p pos : Pos} (hg : Gl X "range") (hm : X.mg "range" = none) (ha : PA X [a] ta) (hs : starEach [a] X.env = [(false, eval a X.env)] := by rfl) : PI X tg (.Call (.Name "range" p) [a] [] pos) (iRng1 ta) := by
 intro pins s σ H R I h
 refine Call_ (ld_blt I hg hm boot_range (PyProof.Rows.callWith_type1 (thn5 (ha pos pins s σ H _ I h) fun us s1 vs H1 I1 r1 q1 => ?_) hs rfl))
 obtain ⟨j, e, q1, q2, q⟩ := q1
 subst e
 cases r1 with
 | cons r rr =>
   cases rr
   obtain ⟨t, rfl⟩ := r
   exact call_range_1 (range_it I1 (by lia) (by lia) q1 q2 (by simpa using q))
noncomputable def tFor (wi : TI) (g : TG) (tb : TS) : TS := fun D σ H => wi σ H fun J H1 => ∃ W : Nat -> Nat -> St -> Hp -> Prop, (∃ m, W 0 m σ H1) /\ ∀ i m σ H, W i m σ H ->
 (J.stop i H /\ D.nx σ H) \/ (J.go i H /\ ∃ N : St -> Hp -> Prop, (∀ σ' H', N σ' H' -> ∃ m', m' < m /\ W (i + 1) m' σ' H') /\ ∀ x H', J.yld i H x H' -> g x σ H' fun σ2 H2 => tb { D with nx := N, ct := N, bk := D.nx } σ2 H2)
noncomputable def pinsAt (fp : List Addr) (h : Heap) : List (Addr × Obj) := fp.filterMap fun b => (h.get? b).map fun o => (b, o)
theorem mem_pinsAt {fp : List Addr} {h : Heap} {b : Addr} {o : Obj} (hb : b ∈ fp) (e : h.get? b = some o) : (b, o) ∈ pinsAt fp h := List.mem_filterMap.mpr ⟨b, hb, by rw [e]; rfl⟩
theorem of_pinsAt {fp : List Addr} {h : Heap} {p : Addr × Obj} (hp : p ∈ pinsAt fp h) : p.1 ∈ fp /\ h.get? p.1 = some p.2 := by
 obtain ⟨b, hb, e⟩ := List.mem_filterMap.mp hp
 cases q : h.get? b with
 | none => rw [q] at e; cases e
 | some o =>
   rw [q] at e
   have e' : (b, o) = p := Option.some.inj e
   subst e'
   exact ⟨hb, q⟩
theorem Inv.pinned {pins : List (Addr × Obj)} {σ : St} {H : Hp} {s : Shared} {fp : List Addr} (I : Inv X pins σ H s) (hf : ∀ b ∈ fp, FpOk X pins H b) (ho : ∀ b ∈ fp, ∃ o, s.heap.get? b = some o /\ ∀ v, o.data ≠ .cell v) : Inv X (pins ++ pinsAt fp s.heap) σ H s :=
 I.pins_of fun p hp => (List.mem_append.mp hp).elim (fun z => I.pin p (List.mem_append_right _ z)) fun z => by
  obtain ⟨hb, e⟩ := of_pinsAt z
  obtain ⟨f0, f1, f2, _⟩ := hf p.1 hb
  obtain ⟨o, e', d⟩ := ho p.1 hb
  rw [e] at e'; cases e'
  exact ⟨e, f0, f1, f2, d⟩
theorem Inv.unpinned {pins pl : List (Addr × Obj)} {σ : St} {H : Hp} {s : Shared} (I : Inv X (pins ++ pl) σ H s) : Inv X pins σ H s := I.pins_of fun p hp => I.pin p (List.mem_append_right _ (List.mem_append_left _ hp))
theorem ps_for {iter : Expr} {body : List Stmt} {wi : TI} {g : TG} {tb : TS} {pos : Pos} (hp : PassesOwn (model X.prog X.w) X.A X.env X.xe) (hc : X.calm = true) (hi : PI X tg iter wi) (hg : PG X tg g) (hb : PSs X body tb)
  (hs : ∀ x, foldedSetIterable iter X.env x = pure x := by intro _; rfl) : PS X (.For tg iter body [] pos) (tFor wi g tb) := by
 intro pins s σ H D I h
 refine wpAny_For (thn (hi pins s σ H _ I h) fun v s1 h1 => thn h1 fun itv s2 h2 => ?_) hs
 obtain ⟨it, fp, tn, J, H2, e, I2, T, st2, f2, W, ⟨m0, w0⟩, turn⟩ := h2
 subst e
 have stat : ∀ {H' : Hp}, (∀ b ∈ fp, H' b = none) -> ∀ b ∈ fp, FpOk X pins H' b := fun hn b hb => ⟨hn b hb, (f2 b hb).2⟩
 refine codeAny_forLoop_any (fun n s' => ∃ i σ' H', Inv X pins σ' H' s' /\ tn i s'.heap /\ (∀ b ∈ fp, H' b = none) /\ W i n σ' H') ?_ m0 ⟨0, σ, H2, I2, st2, fun b hb => (f2 b hb).1, w0⟩
 rintro n s3 ⟨i, σ3, H3, I3, st3, fr3, w3⟩
 rcases turn i n σ3 H3 w3 with ⟨stop, qn⟩ | ⟨go, N, hN, step⟩
 ·refine wpAny_passesOwn hp (thn (T.done X rfl rfl rfl hc i pins s3 σ3 H3 X.xe I3 (stat fr3) st3 stop) fun r s4 ⟨hr, I4⟩ => ?_)
  subst hr
  exact wpAny_execs_nil ⟨σ3, H3, I4, qn⟩
 ·refine wpAny_passesOwn hp (thn (T.item X rfl rfl rfl hc i pins s3 σ3 H3 X.xe I3 (stat fr3) st3 go) fun r s4 ⟨u, hr, h4⟩ => ?_)
  subst hr
  refine wpAny_passesOwn hp (thn5 h4 fun _ s5 x H5 I5 r5 q9 => ?_)
  obtain ⟨y5, st5, fr5⟩ := q9
  have I5' := I5.pinned (stat fr5) (T.obj _ _ st5)
  refine wpAny_passesOwn hp (thn4 (hg _ s5 σ3 H5 x u _ I5' r5 (step x H5 y5)) fun _ s6 σ6 H6 I6 q6 => ?_)
  refine wpAny_passesOwn hp (thn (hb _ s6 σ6 H6 _ I6 q6) fun f s7 q7 => ?_)
  have again : ∀ {σ7 : St} {H7 : Hp}, Inv X (pins ++ pinsAt fp s5.heap) σ7 H7 s7 -> N σ7 H7 -> ∃ m, m < n /\ ∃ i σ' H', Inv X pins σ' H' s7 /\ tn i s7.heap /\ (∀ b ∈ fp, H' b = none) /\ W i m σ' H' := fun {σ7 H7} I7 n7 => by
   obtain ⟨m', hm, w7⟩ := hN σ7 H7 n7
   refine ⟨m', hm, i + 1, σ7, H7, I7.unpinned, T.keep _ _ _ st5 fun b hb o e => (I7.pin (b, o) (List.mem_append_right _ (List.mem_append_right _ (mem_pinsAt hb e)))).1, fun b hb => ?_, w7⟩
   obtain ⟨o, e, d⟩ := T.obj _ _ st5 b hb
   exact (I7.pin (b, o) (List.mem_append_right _ (List.mem_append_right _ (mem_pinsAt hb e)))).2.1
  cases f with
  | next => obtain ⟨σ7, H7, I7, n7⟩ := q7; exact again I7 n7
  | cont => obtain ⟨σ7, H7, I7, n7⟩ := q7; exact again I7 n7
  | brk => obtain ⟨σ7, H7, I7, q7⟩ := q7; exact ⟨σ7, H7, I7.unpinned, q7⟩
  | ret v => obtain ⟨x7, σ7, H7, I7, r7, q7⟩ := q7; exact ⟨x7, σ7, H7, I7.unpinned, r7, q7⟩
end
end L2
namespace L2
open PySem PySem.Spec PyProof.Rows
noncomputable abbrev R2 := V -> V -> Hp -> VK -> Prop
noncomputable def OpR (X : Cx) (f : Value -> Value -> Sem Value) (r : R2) : Prop :=
 ∀ (pins : List (Addr × Obj)) (s : Shared) (σ : St) (H : Hp) (x y : V) (v u : Value) (Q : VK), Inv X pins σ H s -> RelV x v -> RelV y u -> r x y H Q ->
   wpAny (model X.prog X.w) X.A (f v u) (EP X pins σ Q) X.xe s
noncomputable def UnR (X : Cx) (f : Value -> Sem Value) (r : V -> Hp -> VK -> Prop) : Prop :=
 ∀ (pins : List (Addr × Obj)) (s : Shared) (σ : St) (H : Hp) (x : V) (v : Value) (Q : VK), Inv X pins σ H s -> RelV x v -> r x H Q ->
   wpAny (model X.prog X.w) X.A (f v) (EP X pins σ Q) X.xe s
noncomputable def CallR (X : Cx) (f : Value) (r : List V -> Hp -> VK -> Prop) : Prop :=
 ∀ (pins : List (Addr × Obj)) (s : Shared) (σ : St) (H : Hp) (xs : List V) (us : List Value) (Q : VK), Inv X pins σ H s -> Vals xs us -> r xs H Q ->
   wpAny (model X.prog X.w) X.A (call f us) (EP X pins σ Q) X.xe s
noncomputable def TruR (X : Cx) (r : V -> Hp -> (Bool -> Hp -> Prop) -> Prop) : Prop :=
 ∀ (pins : List (Addr × Obj)) (s : Shared) (σ : St) (H : Hp) (x : V) (v : Value) (Q : Bool -> Hp -> Prop), Inv X pins σ H s -> RelV x v -> r x H Q ->
   wpAny (model X.prog X.w) X.A (truthy v) (TP X pins σ Q) X.xe s
noncomputable def tOp (r : R2) (ta tb : TE) : TE := fun σ H Q => ta σ H fun x H1 => tb σ H1 fun y H2 => r x y H2 Q
noncomputable def tUn (r : V -> Hp -> VK -> Prop) (ta : TE) : TE := fun σ H Q => ta σ H fun x H1 => r x H1 Q
noncomputable def rI (C : Int -> Int -> Prop) (g : Int -> Int -> V) : R2 := fun x y H Q => ∃ i j, x = .int i /\ y = .int j /\ C i j /\ Q (g i j) H
noncomputable def rI0 (g : Int -> Int -> V) : R2 := fun x y H Q => ∃ i j, x = .int i /\ y = .int j /\ Q (g i j) H
noncomputable def rU (g : Int -> V) : V -> Hp -> VK -> Prop := fun x H Q => ∃ i, x = .int i /\ Q (g i) H
section
variable {X : Cx} {a b c : Expr} {ta tb tc : TE} {pos : Pos}
theorem binT (ha : PE X a ta) (hb : PE X b tb) {pins : List (Addr × Obj)} {s : Shared} {σ : St} {H : Hp} {R : V -> V -> Hp -> Prop} (I : Inv X pins σ H s)
  (h : ta σ H fun x H1 => tb σ H1 fun y H2 => R x y H2) {Q : Value -> Shared -> Prop} {f : Value -> Value -> Sem Value}
  (hf : ∀ v u s2 x y H2, Inv X pins σ H2 s2 -> RelV x v -> RelV y u -> R x y H2 -> wpAny (model X.prog X.w) X.A (f v u) Q X.xe s2) :
  wpAny (model X.prog X.w) X.A (eval a X.env) (fun v s₁ => wpAny (model X.prog X.w) X.A (eval b X.env) (fun u s₂ => wpAny (model X.prog X.w) X.A (f v u) Q X.xe s₂) X.xe s₁) X.xe s := by
 refine thn5 (ha pins s σ H _ I h) fun v s1 x H1 I1 r1 q1 => ?_
 refine thn5 (hb pins s1 σ H1 _ I1 q1) fun u s2 y H2 I2 r2 q2 => ?_
 exact hf v u s2 x y H2 I2 r1 r2 q2
theorem pe_op {op : Operator} {r : R2} (ho : OpR X (binaryOp op) r) (ha : PE X a ta) (hb : PE X b tb) : PE X (.BinOp a op b pos) (tOp r ta tb) := by
 intro pins s σ H Q I h
 exact wpAny_BinOp (binT ha hb I h fun v u s2 x y H2 I2 rx ry q => ho pins s2 σ H2 x y v u Q I2 rx ry q)
theorem pe_un {op : UnaryOp} {r : V -> Hp -> VK -> Prop} (ho : UnR X (unaryOp op) r) (ha : PE X a ta) : PE X (.UnaryOp op a pos) (tUn r ta) := by
 intro pins s σ H Q I h
 exact UnaryOp_ (thn5 (ha pins s σ H _ I h) fun v s1 x H1 I1 r1 q1 => ho pins s1 σ H1 x v Q I1 r1 q1)
theorem opI {f : Value -> Value -> Sem Value} {C : Int -> Int -> Prop} {g : Int -> Int -> Int}
  (rule : ∀ (i j : Int) (t u : Tok) (s : Shared) (Q : Value -> Shared -> Prop) (E : Value -> Shared -> Prop), C i j -> Q (.int (g i j) s.toks) { s with toks := s.toks + 1 } -> wpAny (model X.prog X.w) X.A (f (.int i t) (.int j u)) Q E s) :
  OpR X f (rI C fun i j => .int (g i j)) := by
 intro pins s σ H x y v u Q I rx ry h
 obtain ⟨i, j, rfl, rfl, hc, q⟩ := h
 obtain ⟨t, rfl⟩ := rx
 obtain ⟨t', rfl⟩ := ry
 exact rule i j t t' s _ _ hc ⟨.int (g i j), H, I.tok _, ⟨_, rfl⟩, q⟩
theorem opI0 {f : Value -> Value -> Sem Value} {g : Int -> Int -> Int}
  (rule : ∀ (i j : Int) (t u : Tok) (s : Shared) (Q : Value -> Shared -> Prop) (E : Value -> Shared -> Prop), Q (.int (g i j) s.toks) { s with toks := s.toks + 1 } -> wpAny (model X.prog X.w) X.A (f (.int i t) (.int j u)) Q E s) :
  OpR X f (rI0 fun i j => .int (g i j)) := by
 intro pins s σ H x y v u Q I rx ry h
 obtain ⟨i, j, rfl, rfl, q⟩ := h
 obtain ⟨t, rfl⟩ := rx
 obtain ⟨t', rfl⟩ := ry
 exact rule i j t t' s _ _ ⟨.int (g i j), H, I.tok _, ⟨_, rfl⟩, q⟩
theorem opB0 {f : Value -> Value -> Sem Value} {g : Int -> Int -> Bool}
  (rule : ∀ (i j : Int) (t u : Tok) (s : Shared) (Q : Value -> Shared -> Prop) (E : Value -> Shared -> Prop), Q (.bool (g i j)) s -> wpAny (model X.prog X.w) X.A (f (.int i t) (.int j u)) Q E s) :
  OpR X f (rI0 fun i j => .bl (g i j)) := by
 intro pins s σ H x y v u Q I rx ry h
 obtain ⟨i, j, rfl, rfl, q⟩ := h
 obtain ⟨t, rfl⟩ := rx
 obtain ⟨t', rfl⟩ := ry
 exact rule i j t t' s _ _ ⟨.bl (g i j), H, I, rfl, q⟩
noncomputable def CPow (i j : Int) : Prop := 0 <= j /\ j <= 1000000 /\ i.natAbs < 2 ^ 64
theorem op_add : OpR X (binaryOp .Add) (rI0 fun i j => .int (i + j)) := opI0 fun _ _ _ _ _ _ _ q => add_int q
theorem op_sub : OpR X (binaryOp .Sub) (rI0 fun i j => .int (i - j)) := opI0 fun _ _ _ _ _ _ _ q => sub_int q
theorem op_modN : OpR X (binaryOp .Mod) (rI (fun _ j => j ≠ 0) fun i j => .int (i.fmod j)) := opI fun _ _ _ _ _ _ _ hc q => mod_int' hc q
theorem op_pow : OpR X (binaryOp .Pow) (rI CPow fun i j => .int (i ^ j.toNat)) := opI fun _ _ _ _ _ _ _ hc q => pow_int_small hc.1 hc.2.1 hc.2.2 q
theorem unI {f : Value -> Sem Value} {g : Int -> Int}
  (rule : ∀ (i : Int) (t : Tok) (s : Shared) (Q : Value -> Shared -> Prop) (E : Value -> Shared -> Prop), Q (.int (g i) s.toks) { s with toks := s.toks + 1 } -> wpAny (model X.prog X.w) X.A (f (.int i t)) Q E s) :
  UnR X f (rU fun i => .int (g i)) := by
 intro pins s σ H x v Q I rx h
 obtain ⟨i, rfl, q⟩ := h
 obtain ⟨t, rfl⟩ := rx
 exact rule i t s _ _ ⟨.int (g i), H, I.tok _, ⟨_, rfl⟩, q⟩
theorem un_neg : UnR X (unaryOp .USub) (rU fun i => .int (-i)) := unI fun _ _ _ _ _ q => neg_int q
end
section
variable {X : Cx} {a b c : Expr} {ta tb tc : TE} {pos : Pos}
theorem op_lt : OpR X (compareOp .Lt) (rI0 fun i j => .bl (decide (i < j))) := opB0 fun _ _ _ _ _ _ _ q => lt_int q
theorem op_gt : OpR X (compareOp .Gt) (rI0 fun i j => .bl (decide (j < i))) := opB0 fun _ _ _ _ _ _ _ q => gt_int q
theorem op_ge : OpR X (compareOp .GtE) (rI0 fun i j => .bl (decide (j <= i))) := opB0 fun _ _ _ _ _ _ _ q => ge_int q
theorem OpR.or {f : Value -> Value -> Sem Value} {r r' : R2} (h : OpR X f r) (h' : OpR X f r') : OpR X f (fun x y H Q => r x y H Q \/ r' x y H Q) := by
 intro pins s σ H x y v u Q I rx ry q
 rcases q with q | q
 ·exact h pins s σ H x y v u Q I rx ry q
 ·exact h' pins s σ H x y v u Q I rx ry q
theorem nomark (b : Expr) {op : CmpOp} (h : op ≠ .In := by decide) (h2 : op ≠ .NotIn := by decide) : behindInMarks op b = false := by
 have e1 : (op == CmpOp.In) = false := by cases op <;> first | rfl | exact absurd rfl h
 have e2 : (op == CmpOp.NotIn) = false := by cases op <;> first | rfl | exact absurd rfl h2
 cases b <;> simp [behindInMarks, e1, e2]
theorem pe_cmpR {op : CmpOp} {r : R2} (ho : OpR X (compareOp op) r) (ha : PE X a ta) (hb : PE X b tb) (hm : behindInMarks op b = false) : PE X (.Compare a [op] [b] pos) (tOp r ta tb) := by
 intro pins s σ H Q I h
 exact wpAny_Compare1 (binT ha hb I h fun v u s2 x y H2 I2 rx ry q => ho pins s2 σ H2 x y v u Q I2 rx ry q) hm
noncomputable def tTest (t : TE) : TT := fun σ H Q => t σ H fun x H' => ∃ k, x = .bl k /\ Q k H'
theorem pt_cmpR {op : CmpOp} {r : R2} (ho : OpR X (compareOp op) r) (ha : PE X a ta) (hb : PE X b tb) (hm : behindInMarks op b = false) : PT X (.Compare a [op] [b] pos) (tTest (tOp r ta tb)) := by
 intro pins s σ H Q I h
 refine wpAny_isTrue_Compare1 (thn5 (ha pins s σ H _ I h) fun v s1 x H1 I1 r1 q1 => thn5 (hb pins s1 σ H1 _ I1 q1) fun u s2 y H2 I2 r2 q2 =>
  thn5 (ho pins s2 σ H2 x y v u _ I2 r1 r2 q2) fun c s3 z H3 I3 r3 q9 => ?_) hm
 obtain ⟨k, e, q3⟩ := q9
 subst e
 cases r3
 exact wpAny_truthy_bool ⟨H3, I3, q3⟩
noncomputable def tChain (r r' : R2) (ta tb tc : TE) : TE := fun σ H Q => ta σ H fun x H1 => tb σ H1 fun y H2 => r x y H2 fun z H3 => ∃ k, z = .bl k /\
 (if k = true then tc σ H3 fun w' H4 => r' y w' H4 Q else Q (.bl false) H3)
theorem pt_chain {op op' : CmpOp} {r r' : R2} (ho : OpR X (compareOp op) r) (ho' : OpR X (compareOp op') r') (ha : PE X a ta) (hb : PE X b tb) (hc : PE X c tc)
  (hm : lastMarks [op, op'] [b, c] = false := by with_unfolding_all rfl) : PT X (.Compare a [op, op'] [b, c] pos) (tTest (tChain r r' ta tb tc)) := by
 intro pins s σ H Q I h
 refine isTrue_chain (thn5 (ha pins s σ H _ I h) fun v s1 x H1 I1 r1 q1 => test_link (thn5 (hb pins s1 σ H1 _ I1 q1) fun u s2 y H2 I2 r2 q2 =>
  thn5 (ho pins s2 σ H2 x y v u _ I2 r1 r2 q2) fun d s3 z H3 I3 r3 q9 => ?_)) hm
 obtain ⟨k, e, q3⟩ := q9
 subst e
 cases r3
 refine wpAny_truthy_bool ?_
 cases k with
 | false =>
   obtain ⟨k', e', q'⟩ := q3
   cases e'
   exact ite_ff ⟨H3, I3, q'⟩
 | true =>
   refine ite_tt (test_last (thn (hc pins s3 σ H3 _ I3 q3) fun w' s4 ⟨z', H4, I4, r4, q4⟩ => thn (ho' pins s4 σ H4 y z' u w' _ I4 r2 r4 q4) fun d' s5 ⟨z2, H5, I5, r5, k2, e2, q5⟩ => ?_))
   subst e2
   cases r5
   exact wpAny_truthy_bool ⟨H5, I5, q5⟩
noncomputable def TruV (K : PySem.W.Frag) (x : V) (H : Hp) (k : Bool) : Prop :=
 match x with
 | .non => k = false
 | .bl b => k = b
 | .int i => k = (i != 0)
 | .str y => y.length <= sizeLine /\ k = ((y.length : Int) != 0)
 | .byt y => y.size <= sizeLine /\ k = ((y.size : Int) != 0)
 | .ref p => (∃ xs, SqL K H p xs /\ k = !xs.isEmpty) \/ (∃ xs, SqT K H p xs /\ k = !xs.isEmpty) \/ ∃ kvs, H p = some (.dK kvs) /\ k = !kvs.isEmpty
 | _ => False
theorem isEmpty_kv {κ : Type} {kvs : List (κ × V)} {vs : List (κ × Value)} (r : KV kvs vs) : (!vs.isEmpty) = !kvs.isEmpty := by
 cases r <;> rfl
theorem isEmpty_of {xs : List V} {its : List Value} (r : Vals xs its) : (!its.toArray.isEmpty) = !xs.isEmpty := by
 cases r <;> simp
theorem line63 : (sizeLine : Nat) < 2 ^ 63 := by rw [sizeLine_eq]; decide
theorem tru_ok : TruR X (fun x H Q => ∃ k, TruV X.K x H k /\ Q k H) := by
 intro pins s σ H x v Q I rx h
 obtain ⟨k, e, q⟩ := h
 have hl := line63
 have hs : sizeLine = 16777216 := sizeLine_eq
 cases x with
 | non =>
   cases rx
   have e' : k = false := e
   subst e'
   exact truthy_none ⟨H, I, q⟩
 | bl b =>
   cases rx
   have e' : k = b := e
   subst e'
   exact wpAny_truthy_bool ⟨H, I, q⟩
 | int i =>
   obtain ⟨t, rfl⟩ := rx
   have e' : k = (i != 0) := e
   subst e'
   exact PySem.P.truthy_int ⟨H, I, q⟩
 | str y =>
   obtain ⟨t, rfl⟩ := rx
   obtain ⟨hy, e'⟩ : y.length <= sizeLine /\ k = ((y.length : Int) != 0) := e
   subst e'
   exact PySem.P.truthy_str (by lia) ⟨H, I.tok _, q⟩
 | byt y =>
   obtain ⟨t, rfl⟩ := rx
   obtain ⟨hy, e'⟩ : y.size <= sizeLine /\ k = ((y.size : Int) != 0) := e
   subst e'
   exact PySem.W.truthy_bytes (by lia) ⟨H, I.tok _, q⟩
 | ref p =>
   cases rx
   have e' : (∃ xs, SqL X.K H p xs /\ k = !xs.isEmpty) \/ (∃ xs, SqT X.K H p xs /\ k = !xs.isEmpty) \/ ∃ kvs, H p = some (.dK kvs) /\ k = !kvs.isEmpty := e
   rcases e' with ⟨xs, hx, e'⟩ | ⟨xs, hx, e'⟩ | ⟨kvs, hx, e'⟩
   ·subst e'
    obtain ⟨its, r, pl, hz⟩ := I.list hx
    have hlen := r.length
    exact wpAny_truthy_list pl.isList (by simp only [List.size_toArray]; lia) ⟨H, I.tok _, by rw [isEmpty_of r]; exact q⟩
   ·subst e'
    obtain ⟨its, r, pl, hz⟩ := I.tuple hx
    have hlen := r.length
    exact truthy_tuple pl (by simp only [List.size_toArray]; lia) ⟨H, I.tok _, by rw [isEmpty_of r]; exact q⟩
   ·subst e'
    obtain ⟨hz, hS, vs, r, m⟩ : kvs.length <= sizeLine /\ (p == sysModules) = false /\ ∃ vs, KV kvs vs /\ s.heap.DictOf (mixKind X.prog X.w) p vs := I.hok p _ hx
    have hlen : kvs.length = vs.length := Paired.length r
    exact wpAny_truthy_dict hS m (by lia) ⟨H, I.tok _, by rw [isEmpty_kv r]; exact q⟩
 | _ => exact (show False from e).elim
theorem pt_truth (ha : PE X a ta) (he : ∀ whole, isTrue a X.env whole = (do let v <- whole; standAt a.pos; holding [v] (truthy v))) :
  PT X a (fun σ H Q => ta σ H fun x H' => ∃ k, TruV X.K x H' k /\ Q k H') := by
 intro pins s σ H Q I h
 exact isTrue_plain (thn5 (ha pins s σ H _ I h) fun v s1 x H1 I1 r1 q1 => tru_ok pins s1 σ H1 x v Q I1 r1 q1) (he _)
theorem op_add_str : OpR X (binaryOp .Add) (fun x y H Q => ∃ i j, x = .str i /\ y = .str j /\ i.length + j.length <= sizeLine /\ Q (.str (i ++ j)) H) := by
 intro pins s σ H x y v u Q I rx ry h
 obtain ⟨i, j, rfl, rfl, hz, q⟩ := h
 obtain ⟨t, rfl⟩ := rx
 obtain ⟨t', rfl⟩ := ry
 exact add_str (fun t' tk => ⟨.str (i ++ j), H, I.tok _, ⟨_, rfl⟩, q⟩) hz
theorem vals1 {x : V} {us : List Value} (r : Vals [x] us) : ∃ u, us = [u] /\ RelV x u := by
 cases r with
 | cons r1 r2 => cases r2; exact ⟨_, rfl, r1⟩
theorem vals2 {x y : V} {us : List Value} (r : Vals [x, y] us) : ∃ u w', us = [u, w'] /\ RelV x u /\ RelV y w' := by
 cases r with
 | cons r1 r2 =>
   cases r2 with
   | cons r3 r4 => cases r4; exact ⟨_, _, rfl, r1, r3⟩
theorem call_abs : CallR X (.builtin "abs") (fun xs H Q => ∃ i, xs = [.int i] /\ Q (.int (if i < 0 then -i else i)) H) := by
 intro pins s σ H xs us Q I r h
 obtain ⟨i, rfl, q⟩ := h
 obtain ⟨u, rfl, t, rfl⟩ := vals1 r
 exact call_abs_int fun u tk => ⟨.int (if i < 0 then -i else i), H, I.tok _, ⟨_, rfl⟩, q⟩
theorem call_max2 (hc : X.calm = true) : CallR X (.builtin "max") (fun xs H Q => ∃ i j, xs = [.int i, .int j] /\ Q (.int (if j > i then j else i)) H) := by
 intro pins s σ H xs us Q I r h
 obtain ⟨i, j, rfl, q⟩ := h
 obtain ⟨u, w', rfl, ⟨t, rfl⟩, ⟨t', rfl⟩⟩ := vals2 r
 refine max_two_ints (I.ok.hd hc) fun h' tk k => ⟨_, H, I.kept k, ?_, q⟩
 by_cases hj : j > i
 ·rw [if_pos hj, if_pos hj]; exact ⟨_, rfl⟩
 ·rw [if_neg hj, if_neg hj]; exact ⟨_, rfl⟩
theorem call_min2 (hc : X.calm = true) : CallR X (.builtin "min") (fun xs H Q => ∃ i j, xs = [.int i, .int j] /\ Q (.int (if j < i then j else i)) H) := by
 intro pins s σ H xs us Q I r h
 obtain ⟨i, j, rfl, q⟩ := h
 obtain ⟨u, w', rfl, ⟨t, rfl⟩, ⟨t', rfl⟩⟩ := vals2 r
 refine min_two_ints (I.ok.hd hc) fun h' tk k => ⟨_, H, I.kept k, ?_, q⟩
 by_cases hj : j < i
 ·rw [if_pos hj, if_pos hj]; exact ⟨_, rfl⟩
 ·rw [if_neg hj, if_neg hj]; exact ⟨_, rfl⟩
theorem call_int1 : CallR X (.type "int") (fun xs H Q => (∃ i, xs = [.int i] /\ Q (.int i) H) \/ ∃ k, xs = [.bl k] /\ Q (.int (if k then 1 else 0)) H) := by
 intro pins s σ H xs us Q I r h
 rcases h with ⟨i, rfl, q⟩ | ⟨k, rfl, q⟩
 ·obtain ⟨u, rfl, t, rfl⟩ := vals1 r
  exact call_int_int ⟨.int i, H, I, ⟨_, rfl⟩, q⟩
 ·obtain ⟨u, rfl, r1⟩ := vals1 r
  cases r1
  exact call_int_bool ⟨.int (if k then 1 else 0), H, I.tok _, ⟨_, rfl⟩, q⟩
end
end L2
namespace L2
open PySem PySem.Spec PyProof.Rows
structure ObjM (h : Heap) (x dx C : Addr) (mA : Str -> Option Value) : Prop where
 obj : h.get? x = some (PySem.W.instObj C dx)
 ns : h.Ns1 dx mA
 ne : dx ≠ x
set_option tactic.hygienic true in
theorem lookIn_ns {h : Heap} {dx : Addr} {mA : Str -> Option Value} (n : h.Ns1 dx mA) : ∃ od, h.get? dx = some od /\ ∀ name, PySem.W.lookIn name od = some (mA name) := by
 obtain ⟨o, es, ep, ho, hd, hk, _, hm⟩ := n
 refine ⟨o, ho, fun name => ?_⟩
 have e := hm name
 unfold nsFind findBy at e
 rw [<- Array.find?_toList] at e
 unfold PySem.W.lookIn
 rw [hd]
 dsimp only
 split
 ·rename_i y q
  rw [q] at e
  exact congrArg some e
 ·rename_i q
  rw [q] at e
  have a : es.toList.any (·.refKey) = false := by
   rw [List.any_eq_false]
   intro y hy
   obtain ⟨z, t, hkey⟩ := hk y (Array.mem_toList_iff.mp hy)
   simp [DictEntry.refKey, hkey]
  have a' : ¬ es.toList.any (·.refKey) = true := by rw [a]; exact Bool.false_ne_true
  rw [if_neg a']
  exact congrArg some e
theorem ObjM.look {h : Heap} {x dx C : Addr} {mA : Str -> Option Value} (I : ObjM h x dx C mA) : ∃ od, PySem.W.InstAt h x (PySem.W.instObj C dx) C (some od) /\ ∀ name, PySem.W.lookIn name od = some (mA name) :=
 let ⟨od, ho, hl⟩ := lookIn_ns I.ns
 ⟨od, ⟨I.obj, rfl, rfl, ho⟩, hl⟩
section
variable {prog : Program} {w : World} {A : Around} {E : Value -> Shared -> Prop} {s : Shared} {K : PySem.W.Frag} {x dx C f : Addr} {mA : Str -> Option Value} {name : Str} {v : Value}
end
section
variable {P : Program} {w : World} {H H' : Hp} {h h' : Heap} {a C dx : Addr} {fs fs' : List (Str × V)}
theorem ins_get (hok : HOk P w H h) (e : H a = some (.ins C dx fs)) : ∃ mA, ObjM h a dx C mA /\ (∀ f, RelO (fs.lookup f) (mA f)) /\ PySem.Within mA (fs.map (·.1)) /\ fs.length <= 1000 /\ H dx = some (.own a) := by
 obtain ⟨d, z, ne, ob, mA, n, r, q⟩ := (show ObjOk P w H h a (.ins C dx fs) from hok a _ e)
 exact ⟨mA, ⟨ob, n, ne⟩, r, q, z, d⟩
end
structure Cls (K : PySem.W.Frag) (C : Addr) : Prop where
 pg : PySem.W.plainGet K C Str.empty = true
 hd : PySem.W.hasDictIn K C = true
 po : PySem.W.plainOver K C = true
 sa : PySem.W.findIn K (.ref C) "__setattr__" = some (some (.builtin "object.__setattr__"))
theorem Cls.get {K : PySem.W.Frag} {C : Addr} (c : Cls K C) (f : Str) : PySem.W.plainGet K C f = true := c.pg
section
variable {X : Cx} {pins : List (Addr × Obj)} {σ : St} {H : Hp} {s : Shared} {a C dx : Addr} {fs : List (Str × V)} {f : Str} {v : V} {A : Around} {E : Value -> Shared -> Prop}
end
section
variable {X : Cx} {o e value : Expr} {f : Str} {pos pos' tpos : Pos} {ta tv : TE}
end
section
variable {X : Cx} {pins : List (Addr × Obj)} {σ : St} {H : Hp} {s : Shared} {A : Around} {E : Value -> Shared -> Prop} {Q : Value -> Shared -> Prop} {c : Value} {b : Bool}
inductive TyOf (K : PySem.W.Frag) (H : Hp) : V -> Value -> Prop where
 | non : TyOf K H .non (.type "NoneType")
 | bl (x : Bool) : TyOf K H (.bl x) (.type "bool")
 | int (i : Int) : TyOf K H (.int i) (.type "int")
 | str (x : Str) : TyOf K H (.str x) (.type "str")
 | flt (x : UInt64) : TyOf K H (.flt x) (.type "float")
 | lst {a : Addr} {xs : List V} (e : H a = some (.lst xs)) : TyOf K H (.ref a) (.type "list")
 | frz {a : Addr} {o : Obj} {xs : List V} (e : H a = some (.frz o (.lst xs))) : TyOf K H (.ref a) (.type "list")
 | tup {a : Addr} {xs : List V} (e : H a = some (.tup xs)) : TyOf K H (.ref a) (.type "tuple")
 | dK {a : Addr} {kvs : List (Key × V)} (e : H a = some (.dK kvs)) : TyOf K H (.ref a) (.type "dict")
 | dT {a : Addr} {kvs : List (List Key × V)} (e : H a = some (.dT kvs)) : TyOf K H (.ref a) (.type "dict")
 | ins {a C dx : Addr} {fs : List (Str × V)} (e : H a = some (.ins C dx fs)) (cl : Cls K C) (ha : PySem.W.findIn K (.ref C) "__class__" = some (some (.builtin "object.__class__")))
   (hn : PySem.W.specialIn K (.builtin "object.__class__") "__get__" = some (some (.builtin "getset_descriptor.__get__"))) (htk : PySem.W.takesIn K (.builtin "object.__class__") = some true)
   (hm : PySem.W.mroIn K C (.type "object") = some true) : TyOf K H (.ref a) (.ref C)
theorem isinst_ok {x : V} {u t : Value} (I : Inv X pins σ H s) (rx : RelV x u) (ty : TyOf X.K H x t) (e : PySem.W.kitOne X.K t c = some b) (h : ∀ tk, Q (.bool b) { s with toks := tk }) :
  wpAny (model X.prog X.w) A (call (.builtin "isinstance") [u, c]) Q E s := by
 cases ty with
 | non => cases (show u = Value.none from rx); exact PySem.W.kia_one PySem.W.kitx_none I.kIn True.intro e (fun z => nomatch z) h
 | bl y => cases (show u = Value.bool y from rx); exact PySem.W.kia_one PySem.W.kitx_bool I.kIn True.intro e (fun z => nomatch z) h
 | int i => obtain ⟨t, q⟩ := (show ∃ t, u = Value.int i t from rx); cases q; exact PySem.W.kia_one PySem.W.kitx_int I.kIn True.intro e (fun z => nomatch z) h
 | str y => obtain ⟨t, q⟩ := (show ∃ t, u = Value.str y t from rx); cases q; exact PySem.W.kia_one PySem.W.kitx_str I.kIn True.intro e (fun z => nomatch z) h
 | flt y => obtain ⟨t, q⟩ := (show ∃ t, u = Value.float y t from rx); cases q; exact PySem.W.kia_one PySem.W.kitx_float I.kIn True.intro e (fun z => nomatch z) h
 | @lst a xs ea =>
   cases (show u = Value.ref a from rx)
   obtain ⟨_, _, n, _, h1⟩ := (show ObjOk X.prog X.w H s.heap a (.lst xs) from I.hok a _ ea)
   exact PySem.W.kia_one PySem.W.kitx_list I.kIn ⟨_, h1, rfl⟩ e (fun z => nomatch z) h
 | @frz a ob xs ea =>
   cases (show u = Value.ref a from rx)
   obtain ⟨_, _, _, n, _, h1⟩ := (show ObjOk X.prog X.w H s.heap a (.frz ob (.lst xs)) from I.hok a _ ea)
   exact PySem.W.kia_one PySem.W.kitx_list I.kIn ⟨_, h1, rfl⟩ e (fun z => nomatch z) h
 | @tup a xs ea =>
   cases (show u = Value.ref a from rx)
   obtain ⟨_, _, _, p⟩ := (show ObjOk X.prog X.w H s.heap a (.tup xs) from I.hok a _ ea)
   obtain ⟨o, h1, h2, _⟩ := p
   exact PySem.W.kia_one PySem.W.kitx_tuple I.kIn ⟨o, h1, h2⟩ e (fun z => nomatch z) h
 | @dK a kvs ea =>
   cases (show u = Value.ref a from rx)
   obtain ⟨_, _, vs, _, p⟩ := (show ObjOk X.prog X.w H s.heap a (.dK kvs) from I.hok a _ ea)
   obtain ⟨o, es, ep, h1, h2, _⟩ := p
   exact PySem.W.kia_one PySem.W.kitx_dict I.kIn ⟨o, h1, h2.1⟩ e (fun z => nomatch z) h
 | @dT a kvs ea =>
   cases (show u = Value.ref a from rx)
   obtain ⟨_, _, xs, _, o, es, ep, h1, h2, _⟩ := (show ObjOk X.prog X.w H s.heap a (.dT kvs) from I.hok a _ ea)
   exact PySem.W.kia_one PySem.W.kitx_dict I.kIn ⟨o, h1, h2.1⟩ e (fun z => nomatch z) h
 | @ins a C dx fs ea cl ha hn htk hm =>
   cases (show u = Value.ref a from rx)
   obtain ⟨mA, O, _⟩ := ins_get I.hok ea
   obtain ⟨od, J, _⟩ := O.look
   exact PySem.W.kia_one (PySem.W.kitx_own (cl.get _) cl.hd ha hn htk hm) I.kIn J e (fun z => nomatch z) h
end
end L2
namespace L2
open PySem PySem.Spec PyProof.Rows
structure Room (k : Nat) (A : Around) : Prop where
 hd : A.handled = none
 dp : A.depth + 3 * k + 5 < recursionLimit
 un : A.units + 16 * k + 200 < cLine
theorem Room.mono {j k : Nat} {A : Around} (r : Room k A) (h : j <= k) : Room j A := ⟨r.hd, by have := r.dp; lia, by have := r.un; lia⟩
theorem Room.deeper {k : Nat} {A : Around} (r : Room (k + 1) A) (env : Env) : Room k (A.deeper env) :=
 ⟨r.hd, by have := r.dp; show A.depth + 1 + 3 * k + 5 < _; lia, by have := r.un; show A.units + 3 + 16 * k + 200 < _; lia⟩
theorem Room.depth {k : Nat} {A : Around} (r : Room k A) : A.depth < recursionLimit := by have := r.dp; lia
theorem Room.units {k : Nat} {A : Around} (r : Room k A) : A.units + 64 < cLine := by have := r.un; lia
noncomputable def tNil : TA := fun _ H Q => Q [] H
noncomputable def tCons (ta : TE) (tr : TA) : TA := fun σ H Q => ta σ H fun x H1 => tr σ H1 fun xs H2 => Q (x :: xs) H2
section
variable {X : Cx} {e : Expr} {es : List Expr} {te : TE} {t : TA} {pos : Pos}
theorem pa_nil : PA X [] tNil := fun _ _ _ _ H Q I h => Calls.spliced_nil ⟨[], H, I, .nil, h⟩
theorem pa_cons (ha : PE X e te) (hr : PA X es t) (hs : starEach (e :: es) X.env = (false, eval e X.env) :: starEach es X.env := by rfl) : PA X (e :: es) (tCons te t) := by
 intro pos pins s σ H Q I h
 rw [hs]
 show wpAny _ _ (spliced ((false, eval e X.env) :: backTo pos (starEach es X.env))) _ _ s
 refine Calls.spliced_cons (thn5 (ha pins s σ H _ I h) fun u s1 x H1 I1 r1 q1 => ?_)
 exact thn5 (hr pos pins s1 σ H1 _ I1 q1) fun us s2 xs H2 I2 r2 q2 => ⟨x :: xs, H2, I2, .cons r1 r2, q2⟩
noncomputable def tTup (t : TA) : TE := fun σ H Q => t σ H fun xs H1 => xs.length <= sizeLine /\ ∀ p, H1 p = none -> Q (.ref p) (upd H1 p (.tup xs))
noncomputable def tLst (t : TA) : TE := fun σ H Q => t σ H fun xs H1 => xs.length <= sizeLine /\ ∀ p, H1 p = none -> Q (.ref p) (upd H1 p (.lst xs))
theorem pe_tup {x1} (h : PA X es t) : PE X (.Tuple es x1 pos) (tTup t) := by
 intro pins s σ H Q I hq
 refine wpAny_Tuple_spliced (thn (h pos pins s σ H _ I hq) fun us s1 ⟨xs, H1, I1, r, z, q⟩ => ⟨by rw [<- r.length]; exact z, ?_⟩)
 have hf : H1 s1.heap.objs.size = none := I1.hok.fresh (Nat.le_refl _)
 refine ⟨.ref s1.heap.objs.size, upd H1 s1.heap.objs.size (.tup xs), I1.laid (t' := s1.toks) (fun b u e => Heap.get?_push_of_some _ e) (Nat.le_refl _) ?_, rfl, q _ hf⟩
 exact ⟨z, us, r, ⟨_, Heap.get?_push_size _ rfl, rfl, _, rfl⟩⟩
theorem pe_lst (h : PA X es t) : PE X (.List es pos) (tLst t) := by
 intro pins s σ H Q I hq
 refine wpAny_List_spliced (thn (h pos pins s σ H _ I hq) fun us s1 ⟨xs, H1, I1, r, z, q⟩ => ⟨by rw [<- r.length]; exact z, ?_⟩)
 have hf : H1 s1.heap.objs.size = none := I1.hok.fresh (Nat.le_refl _)
 refine ⟨.ref s1.heap.objs.size, upd H1 s1.heap.objs.size (.lst xs), I1.laid (t' := s1.toks) (fun b u e => Heap.get?_push_of_some _ e) (Nat.le_refl _) ?_, rfl, q _ hf⟩
 exact ⟨z, us, 0, r, Heap.get?_push_size _ rfl⟩
end
noncomputable abbrev Sp := List V -> Hp -> VK -> XK -> Prop
noncomputable abbrev CXT := List Env -> Hp -> Shared -> XK -> Value -> Shared -> Prop
structure Env0 (P : Program) (w : World) (K : PySem.W.Frag) (mg : Str -> Option Value) (base : Heap) (A : Around) (outer : List Env) (s : Shared) (H : Hp) : Prop where
 frames : A.frames = some outer
 mod : Mod K mg base
 bs : ∀ b o, base.get? b = some o -> s.heap.get? b = some o /\ H b = none
 bsz : base.objs.size <= s.heap.objs.size
 funs : s.heap.FunFrames base outer
 frf : ∀ b ∈ frs outer, H b = none
 hok : HOk P w H s.heap
 bare : AllBare s.gens
noncomputable def CE (outer : List Env) (P : Program) (w : World) (H : Hp) (s : Shared) (Q : VK) (u : Value) (s' : Shared) : Prop :=
 ∃ v H', s'.os = s.os /\ AllBare s'.gens /\ Un (frs outer) [] H H' s.heap s'.heap /\ HOk P w H' s'.heap /\ RelV v u /\ Q v H'
noncomputable def CR (CX : CXT) (outer : List Env) (P : Program) (w : World) (H : Hp) (s : Shared) (Q : VK) (E : XK) (r : Result) (s' : Shared) : Prop :=
 match r with
 | .ok (.ret u) => CE outer P w H s Q u s'
 | .ok _ => False
 | .error e => CX outer H s E e s'
structure FnOk (P : Program) (w : World) (K : PySem.W.Frag) (mg : Str -> Option Value) (base : Heap) (CX : CXT) (k : Nat) (f : Addr) (fd : FuncData) (ps : List Str) (sp : Sp) : Prop where
 len : ∀ vs H Q E, sp vs H Q E -> vs.length = ps.length
 run : ∀ (A : Around) (outer : List Env) (s : Shared) (H : Hp) (args : Args) (us : List Value) (vs : List V) (Q : VK) (E : XK), Room k A -> Env0 P w K mg base A outer s H -> BindsTo s fd args (ps.zip us) -> Vals vs us -> sp vs H Q E ->
  codeAny (model P w) A (.call (.ref f) args) (CR CX outer P w H s Q E) s
section
variable {X : Cx} {pins : List (Addr × Obj)} {σ : St} {H : Hp} {s s' : Shared}
theorem Inv.env0 (I : Inv X pins σ H s) : Env0 X.prog X.w X.K X.mg X.base X.A X.stack s H :=
 ⟨I.ok.frames, I.ok.mod, I.bs, Nat.le_trans I.ok.bsz I.sz, I.stack, I.stkFree, I.hok, I.bare⟩
theorem Inv.after {Q : VK} {u : Value} (I : Inv X pins σ H s) (h : CE X.stack X.prog X.w H s Q u s') : EP X pins σ Q u s' := by
 obtain ⟨v, H', os, bare, un, hok, r, q⟩ := h
 obtain ⟨hh, g, d, t, os'⟩ := s'
 obtain rfl : os' = s.os := os
 exact ⟨v, H', I.call (h' := hh) (g' := g) (d' := d) (t' := t) (ch := []) un hok bare (fun b z => absurd z (by simp)), r, q⟩
end
noncomputable def tCall (sp : Sp) (dvs : List V) (E : XK) (t : TA) : TE := fun σ H Q => t σ H fun vs H1 => sp (vs ++ dvs) H1 Q E
noncomputable def Binds (K : PySem.W.Frag) (fd : FuncData) (ps : List Str) (ds : List Value) : Prop :=
 ∀ (s : Shared) (us : List Value), K.In s.heap -> (us ++ ds).length = ps.length -> BindsTo s fd ⟨us, []⟩ (ps.zip (us ++ ds))
theorem Binds.all {K : PySem.W.Frag} {fd : FuncData} {ps : List Str} (h : ∀ us : List Value, us.length = ps.length -> bindArgs fd ⟨us, []⟩ = pure (ps.zip us)) : Binds K fd ps [] := fun s us _ hl => by
 rw [List.append_nil] at hl ⊢
 exact .of_eq (h us hl)
noncomputable def Passes (CX : CXT) (X : Cx) (E : XK) : Prop := ∀ (pins : List (Addr × Obj)) (σ : St) (H : Hp) (s : Shared) (e : Value) (s' : Shared), Inv X pins σ H s -> CX X.stack H s E e s' -> X.xe e s'
section
variable {X : Cx} {CX : CXT} {k : Nat} {f C : Addr} {fd : FuncData} {ps : List Str} {sp : Sp} {dvs : List V} {ds : List Value} {E : XK} {x m : Str} {p pos apos : Pos} {e o : Expr} {es : List Expr} {ta : TE} {t : TA}
theorem run_fn {pins : List (Addr × Obj)} {σ : St} {H : Hp} {s : Shared} {Q : VK} {us : List Value} {vs : List V} (F : FnOk X.prog X.w X.K X.mg X.base CX k f fd ps sp) (hr : Room k X.A) (hb : Binds X.K fd ps ds) (hd : Vals dvs ds) (hx : Passes CX X E)
  (I : Inv X pins σ H s) (r : Vals vs us) (h : sp (vs ++ dvs) H Q E) : wpAny (model X.prog X.w) X.A (call (.ref f) us) (EP X pins σ Q) X.xe s := by
 have r2 : Vals (vs ++ dvs) (us ++ ds) := r.append hd
 have hl : (us ++ ds).length = ps.length := by rw [<- r2.length]; exact F.len _ _ _ _ h
 refine wpAny_call (codeAny_mono (F.run X.A X.stack s H ⟨us, []⟩ (us ++ ds) (vs ++ dvs) Q E hr I.env0 (hb s us I.kIn hl) r2 h) fun r s' hq => ?_)
 cases r with
 | error e => exact hx pins σ H s e s' I hq
 | ok fl =>
   cases fl with
   | ret u => exact I.after hq
   | next => exact False.elim hq
   | brk => exact False.elim hq
   | cont => exact False.elim hq
theorem pe_call (F : FnOk X.prog X.w X.K X.mg X.base CX k f fd ps sp) (hr : Room k X.A) (hg : Gl X x) (hm : X.mg x = some (.ref f)) (hk : PySem.W.keepIn X.K (.ref f) = true) (hb : Binds X.K fd ps ds) (hd : Vals dvs ds) (hx : Passes CX X E)
  (ha : PA X (e :: es) t) (hdb : (x == ("__debug__" : Str)) = false := by decide) (he : starEach (e :: es) X.env = (false, eval e X.env) :: starEach es X.env := by rfl) (hpl : (backTo pos (starEach es X.env)).any (·.1) = false := by rfl) :
  PE X (.Call (.Name x p) (e :: es) [] pos) (tCall sp dvs E t) := by
 intro pins s σ H Q I h
 refine wpAny_Call_Name_kw (ld_glob I hg hm ?_ hdb)
 refine PySem.W.callWith_K (h₀ := X.base) I.ok.mod.kin hk (thn5 (ha pos pins s σ H _ I h) fun us s1 vs H1 I1 r q => ⟨I1.kIn, ?_⟩) he hpl
 exact run_fn F hr hb hd hx I1 r q
end
section
variable {X : Cx} {CX : CXT} {k : Nat} {f C : Addr} {fd : FuncData} {ps ks : List Str} {sp : Sp} {E : XK} {x m : Str} {p pos apos kpos : Pos} {e o : Expr} {es : List Expr} {kws : List Keyword} {te ta : TE} {t tk : TA} {nm : Option Str}
variable {g : List Value -> List Value -> List Value} {gV : List V -> List V -> List V}
end
structure FnScope (N P : List Str) (sc : Scope) : Prop where
 kind : sc.kind = .function
 co : sc.isCoroutine = false
 gen : sc.isGenerator = false
 nd : N.Nodup
 pre : N.take P.length = P
 par : ∀ x ∈ P, sc.names.lookup x = some .local \/ sc.names.lookup x = some .cell
 nofree : ∀ y ∈ sc.names, y.2 ≠ .free
theorem bindL_out {kindOf : Str -> Option NameKind} {x : Str} : ∀ {binds : List (Str × Value)} {m : Str -> Option Value}, (∀ v, (x, v) ∉ binds) -> bindL kindOf binds m x = m x
 | [], _, _ => rfl
 | (n, v) :: r, m, h => by
   unfold bindL
   rw [bindL_out fun w hw => h w (List.mem_cons_of_mem _ hw)]
   split
   ·have : x ≠ n := by rintro rfl; exact h v List.mem_cons_self
    simp [this]
   ·rfl
theorem bindC_out {kindOf : Str -> Option NameKind} {x : Str} : ∀ {binds : List (Str × Value)} {m : Str -> Option Value}, (∀ v, (x, v) ∉ binds) -> bindC kindOf binds m x = m x
 | [], _, _ => rfl
 | (n, v) :: r, m, h => by
   unfold bindC
   rw [bindC_out fun w hw => h w (List.mem_cons_of_mem _ hw)]
   split
   ·rfl
   ·have : x ≠ n := by rintro rfl; exact h v List.mem_cons_self
    simp [this]
theorem bindL_get {kindOf : Str -> Option NameKind} {x : Str} {v : Value} : ∀ {P : List Str} {vs : List Value} {i : Nat} {m : Str -> Option Value}, P.Nodup -> P[i]? = some x -> vs[i]? = some v -> kindOf x = some .local ->
  bindL kindOf (P.zip vs) m x = some v
 | [], _, _, _, _, h, _, _ => by simp at h
 | _ :: _, [], _, _, _, _, h, _ => by simp at h
 | p :: P, w :: vs, 0, m, nd, h1, h2, hk => by
   simp at h1 h2; subst h1; subst h2
   show bindL kindOf ((p, w) :: P.zip vs) m p = _
   unfold bindL
   rw [bindL_out fun v hv => (List.nodup_cons.mp nd).1 (List.of_mem_zip hv).1, if_pos hk]
   simp
 | p :: P, w :: vs, i + 1, m, nd, h1, h2, hk => by
   show bindL kindOf ((p, w) :: P.zip vs) m x = _
   unfold bindL
   exact bindL_get (i := i) (List.nodup_cons.mp nd).2 (by simpa using h1) (by simpa using h2) hk
theorem bindC_get {kindOf : Str -> Option NameKind} {x : Str} {v : Value} : ∀ {P : List Str} {vs : List Value} {i : Nat} {m : Str -> Option Value}, P.Nodup -> P[i]? = some x -> vs[i]? = some v -> kindOf x ≠ some .local ->
  bindC kindOf (P.zip vs) m x = some v
 | [], _, _, _, _, h, _, _ => by simp at h
 | _ :: _, [], _, _, _, _, h, _ => by simp at h
 | p :: P, w :: vs, 0, m, nd, h1, h2, hk => by
   simp at h1 h2; subst h1; subst h2
   show bindC kindOf ((p, w) :: P.zip vs) m p = _
   unfold bindC
   rw [bindC_out fun v hv => (List.nodup_cons.mp nd).1 (List.of_mem_zip hv).1, if_neg hk]
   simp
 | p :: P, w :: vs, i + 1, m, nd, h1, h2, hk => by
   show bindC kindOf ((p, w) :: P.zip vs) m x = _
   unfold bindC
   exact bindC_get (i := i) (List.nodup_cons.mp nd).2 (by simpa using h1) (by simpa using h2) hk
noncomputable def start (N : List Str) (vs : List V) : St := vs.map some ++ List.replicate (N.length - vs.length) none
noncomputable def cxOf (CX : CXT) (P : Program) (w : World) (K : PySem.W.Frag) (mg : Str -> Option Value) (base : Heap) (N : List Str) (qual : Str) (scope : Scope) (f : Addr) (cd : Value) (A : Around) (outer : List Env) (s : Shared) (H : Hp) (E : XK) : Cx where
 prog := P
 w := w
 K := K
 mg := mg
 base := base
 A := A.deeper (envOfC qual scope s.heap.objs.size f cd)
 N := N
 s₀ := s
 H₀ := H
 env := envOfC qual scope s.heap.objs.size f cd
 outer := outer
 stack := envOfC qual scope s.heap.objs.size f cd :: outer
 ex := []
 calm := true
 fn := fun _ => true
 pn := []
 xe := fun e s' => wpAny (model P w) (A.deeper (envOfC qual scope s.heap.objs.size f cd)) (leaving (envOfC qual scope s.heap.objs.size f cd) e) (fun _ s'' => CX outer H s E e s'') (fun e' s'' => CX outer H s E e' s'') s'
theorem cell_has {sc : Scope} {n : Nat} {x : Str} (h : sc.names.lookup x = some .cell) : ∃ c, (cellsFrom n sc.names []).lookup x = some c := by
 have q := PySem.W.cellsFrom_some sc.names n [] (.inl h)
 exact Option.isSome_iff_exists.mp q
theorem inv_start {CX : CXT} {P : Program} {w : World} {K : PySem.W.Frag} {mg : Str -> Option Value} {base : Heap} {N ps : List Str} {qual : Str} {scope : Scope} {f : Addr} {cd : Value} {A : Around} {outer : List Env} {s s1 : Shared} {H : Hp} {E : XK} {us : List Value} {vs : List V}
  (S : FnScope N ps scope) (hd : A.handled = none) (e0 : Env0 P w K mg base A outer s H) (hl : vs.length = ps.length) (r : Vals vs us)
  (x : InCallC s s.heap.objs.size (bindL (envOfC qual scope s.heap.objs.size f cd).kindOf (ps.zip us) fun _ => none) (cellsFrom (s.heap.objs.size + 1) scope.names []) (bindC (envOfC qual scope s.heap.objs.size f cd).kindOf (ps.zip us) fun _ => none) s1) :
  Inv (cxOf CX P w K mg base N qual scope f cd A outer s H E) [] (start N vs) H s1 := by
 have hpl : ps.length <= N.length := by have := congrArg List.length S.pre; rw [List.length_take] at this; lia
 obtain ⟨h1, tk, rfl, hk⟩ := x.done
 have noA : ∀ b : Addr, b ∉ (cxOf CX P w K mg base N qual scope f cd A outer s H E).ex := fun b z => absurd (show b ∈ ([] : List Addr) from z) (by simp)
 refine ⟨⟨e0.mod, S.kind, rfl, rfl, Nat.le_refl _, fun y z c h1 h2 => ?_, fun y hy => ?_, fun y c _ h => ?_, fun _ => hd, Around.frames_deeper e0.frames, .inr ⟨rfl, rfl⟩, fun b z => absurd z (noA b), e0.bs, e0.bsz, fun b _ _ => noA b, fun b z => absurd z (noA b), e0.funs, e0.frf⟩,
  rfl, e0.bare, Un.kept hk, ⟨_, x.toInCall.ns, fun i y v h1 h2 h3 => ?_⟩, fun y c h => ⟨_, x.cell y c h⟩, e0.hok.fresh (Nat.le_refl _), fun y c h => ?_, fun p hp => absurd (show p ∈ ([] : List (Addr × Obj)) from hp) (by simp), e0.hok.kept hk, ?_⟩
 ·exact name_of_addr x.apart (PySem.mem_of_lookup h1) (PySem.mem_of_lookup h2)
 ·have hy : scope.names.lookup y = some .cell \/ scope.names.lookup y = some .free := hy
  rcases hy with hy | hy
  ·exact cell_has hy
  ·exact absurd rfl (S.nofree _ (PySem.mem_of_lookup hy))
 ·exact Nat.le_of_lt (x.above y c (PySem.mem_of_lookup h))
 ·have hi : i < vs.length := by
   unfold start at h2
   by_cases hi : i < vs.length
   ·exact hi
   ·rw [List.getElem?_append_right (by simpa using hi)] at h2
    rw [List.getElem?_replicate] at h2
    split at h2 <;> cases h2
  have ha : vs[i]? = some v := by
   unfold start at h2
   rw [List.getElem?_append_left (by simpa using hi), List.getElem?_map] at h2
   cases e : vs[i]? with
   | none => rw [e] at h2; cases h2
   | some a => rw [e] at h2; cases h2; rfl
  obtain ⟨u, hu, rv⟩ := r.get ha
  have hp : ps[i]? = some y := by
   rw [<- S.pre, List.getElem?_take_of_lt (by lia)]; exact h1
  have ndP : ps.Nodup := by rw [<- S.pre]; exact S.nd.sublist (List.take_sublist _ _)
  refine ⟨u, rv, ?_⟩
  rcases S.par y (List.mem_of_getElem? hp) with k | k
  ·exact .inl ⟨k, bindL_get ndP hp hu k⟩
  ·obtain ⟨c, e⟩ := cell_has (n := s.heap.objs.size + 1) k
   refine .inr ⟨.inl k, c, e, ?_⟩
   have q := x.cell y c e
   rw [bindC_get ndP hp hu (by show scope.names.lookup y ≠ _; rw [k]; decide)] at q
   exact q
 ·exact e0.hok.fresh (Nat.le_of_lt (x.above y c (PySem.mem_of_lookup h)))
 ·unfold start
  show _ = N.length
  rw [List.length_append, List.length_map, List.length_replicate]
  lia
theorem fn_of {CX : CXT} {P : Program} {w : World} {K : PySem.W.Frag} {mg : Str -> Option Value} {base : Heap} {k : Nat} {f : Addr} {name qual : Str} {params : Arguments} {body : List Stmt} {scope : Scope} {dV kV doc pm cdv ct oc : Value} {an od : Option Addr}
  {osl : Array (Option Value)} {N ps : List Str} {sp : Sp} (lk : K.lookup f = some ⟨oc, od, .func (PySem.W.fnOf name qual params body scope dV kV doc pm an cdv ct), osl⟩) (hcd : PySem.W.codeIn K cdv qual = true) (S : FnScope N ps scope)
  (len : ∀ vs H Q E, sp vs H Q E -> vs.length = ps.length)
  (hbody : ∀ (A : Around) (outer : List Env) (s : Shared) (H : Hp) (vs : List V) (Q : VK) (E : XK), Room k (A.deeper (envOfC qual scope s.heap.objs.size f cdv)) -> sp vs H Q E ->
   ∃ t, PSs (cxOf CX P w K mg base N qual scope f cdv A outer s H E) body t /\ t { nx := fun _ H' => Q .non H', rt := Q } (start N vs) H) :
  FnOk P w K mg base CX (k + 1) f (PySem.W.fnOf name qual params body scope dV kV doc pm an cdv ct) ps sp := by
 refine ⟨len, fun A outer s H args us vs Q E hr e0 hb r hsp => ?_⟩
 have hl := len _ _ _ _ hsp
 have KX : K.In s.heap := e0.mod.kin.keeps fun b o e => (e0.bs b o e).1
 have lim : s.heap.NoLimit := e0.mod.nolimit.keeps fun b o e => (e0.bs b o e).1
 have hkind : ∀ y ∈ ps.zip us, scope.names.lookup y.1 = some .local \/ (scope.names.lookup y.1 = some .cell /\ ((cellsFrom (s.heap.objs.size + 1) scope.names []).lookup y.1).isSome = true) := fun ⟨n, v⟩ hy => by
  rcases S.par n (List.of_mem_zip hy).1 with q | q
  ·exact .inl q
  ·exact .inr ⟨q, PySem.W.cellsFrom_some _ _ _ (.inl q)⟩
 refine codeAny_call_function hr.depth (KX _ _ lk) rfl S.co S.gen rfl (PySem.W.codeRec_of KX hcd) (hb _ _ _ _ ?_)
 refine wpAny_newFunctionEnv_cells S.kind hkind fun env he s1 x => ?_
 subst he
 refine ⟨lim.keeps x.toInCall.keep, codeAny_func ?_⟩
 obtain ⟨t, ht, hq⟩ := hbody A outer s H vs Q E (hr.deeper _) hsp
 have I : Inv (cxOf CX P w K mg base N qual scope f cdv A outer s H E) [] (start N vs) H s1 := inv_start S hr.hd e0 hl r x
 refine wpAny_mono (ht [] s1 (start N vs) H _ I hq) (fun fl s' hs => ?_) fun e s' hs => hs
 have fin : ∀ {σ' : St} {H' : Hp} {v : V} {u : Value}, Inv (cxOf CX P w K mg base N qual scope f cdv A outer s H E) [] σ' H' s' -> RelV v u -> Q v H' -> CE outer P w H s Q u s' :=
  fun {σ' H' v u} J rv q => ⟨v, H', J.os, J.bare, J.base, J.hok, rv, q⟩
 cases fl with
 | ret u =>
   obtain ⟨v, σ', H', J, rv, q⟩ := hs
   exact fin J rv q
 | next =>
   obtain ⟨σ', H', J, q⟩ := hs
   exact fin (v := V.non) (u := Value.none) J rfl q
 | brk =>
   obtain ⟨_, _, _, q⟩ := hs
   exact False.elim q
 | cont =>
   obtain ⟨_, _, _, q⟩ := hs
   exact False.elim q
end L2
namespace L2
open PySem PySem.Spec PyProof.Rows
section
variable {X : Cx} {x : Str} {p pos : Pos} {e : Expr} {es : List Expr} {t : TA} {id T : String} {r : List V -> Hp -> VK -> Prop}
noncomputable def tCB (r : List V -> Hp -> VK -> Prop) (t : TA) : TE := fun σ H Q => t σ H fun vs H1 => r vs H1 Q
theorem pe_callB (hc : CallR X (.builtin id) r) (hg : Gl X x) (hm : X.mg x = none) (hv : bootBuiltins x = some (.builtin id)) (ha : PA X (e :: es) t) (hn : x ≠ "__name__" := by decide) (hdb : (x == ("__debug__" : Str)) = false := by decide)
  (he : starEach (e :: es) X.env = (false, eval e X.env) :: starEach es X.env := by rfl) (hpl : (backTo pos (starEach es X.env)).any (·.1) = false := by rfl) : PE X (.Call (.Name x p) (e :: es) [] pos) (tCB r t) := by
 intro pins s σ H Q I h
 refine wpAny_Call_Name_kw (ld_blt I hg hm hv ?_ hn hdb)
 exact PyProof.Rows.callWith_builtin1 (thn5 (ha pos pins s σ H _ I h) fun us s1 vs H1 I1 r1 q1 => hc pins s1 σ H1 vs us Q I1 r1 q1) he hpl
theorem pe_callTy (hc : CallR X (.type T) r) (hg : Gl X x) (hm : X.mg x = none) (hv : bootBuiltins x = some (.type T)) (ha : PA X (e :: es) t) (hn : x ≠ "__name__" := by decide) (hdb : (x == ("__debug__" : Str)) = false := by decide)
  (he : starEach (e :: es) X.env = (false, eval e X.env) :: starEach es X.env := by rfl) (hpl : (backTo pos (starEach es X.env)).any (·.1) = false := by rfl) : PE X (.Call (.Name x p) (e :: es) [] pos) (tCB r t) := by
 intro pins s σ H Q I h
 refine wpAny_Call_Name_kw (ld_blt I hg hm hv ?_ hn hdb)
 exact PyProof.Rows.callWith_type1 (thn5 (ha pos pins s σ H _ I h) fun us s1 vs H1 I1 r1 q1 => hc pins s1 σ H1 vs us Q I1 r1 q1) he hpl
end
end L2
namespace HT
open PySem PyProof.Rows
section
open PySem.SeqAt
open PySem.AutoSeq1 (wpAny_loadPart')
open PySem.MeetsSeq PySem.MeetsSeq2 PySem.MeetsSeq3
end
section
variable {prog : Program} {w : World} {A : Around} {E : Value -> Shared -> Prop} {s : Shared}
theorem cat_tup {t b : Addr} {vs ws : List Value} {Q : Value -> Shared -> Prop} (ht : IsTup s.heap t vs.toArray) (hb : IsTup s.heap b ws.toArray) (hv : vs ≠ [])
  (h1 : ws = [] -> Q (.ref t) s) (h2 : ws ≠ [] -> Q (.ref s.heap.objs.size) { s with heap := s.heap.push { cls := .type "tuple", data := .seq (vs ++ ws).toArray } })
  (hsz : vs.length + ws.length <= sizeLine) : wpAny (model prog w) A (binaryOp .Add (.ref t) (.ref b)) Q E s := by
 obtain ⟨⟨cls, dd, data, sl⟩, ho, hc, n, hd⟩ := id ht
 obtain ⟨⟨cls2, dd2, data2, sl2⟩, ho2, hc2, n2, hd2⟩ := id hb
 simp only at hc hd hc2 hd2
 subst hc hd hc2 hd2
 have e : vs.toArray ++ ws.toArray = (vs ++ ws).toArray := by simp
 by_cases hw : ws = []
 ·exact concat_meets ⟨_, ho, rfl⟩ ⟨_, ho2, rfl⟩ noFill_tuple_add seq_tuple_add PySem.F.slot_tuple_add PySem.F.entry_tuple_add (PySem.F.args_tuple_add_2 _ _)
   (tuple_addW1 t b vs.toArray ws.toArray n n2 dd dd2 sl sl2 (by simpa using hv) (by simp [hw])) ⟨ho, ho2, h1 hw⟩
 ·refine concat_meets ⟨_, ho, rfl⟩ ⟨_, ho2, rfl⟩ noFill_tuple_add seq_tuple_add PySem.F.slot_tuple_add PySem.F.entry_tuple_add (PySem.F.args_tuple_add_2 _ _)
   (tuple_addW2 t b vs.toArray ws.toArray n n2 dd dd2 sl sl2 (by simpa using hv) (by simpa using hw) (by rw [List.size_toArray, List.size_toArray]; exact hsz)) ⟨ho, ho2, ?_⟩
  rw [e]
  exact h2 hw
noncomputable def sIx (n d : Nat) : Option Int -> Nat
 | none => d
 | some v => if v < 0 then (v + (n : Int)).toNat else min v.toNat n
end
end HT
namespace L2
open PySem PySem.Spec PyProof.Rows
noncomputable abbrev TO := St -> Hp -> (Option Int -> Hp -> Prop) -> Prop
noncomputable def PO (X : Cx) (e : Option Expr) (t : TO) : Prop :=
 ∀ (pins : List (Addr × Obj)) (s : Shared) (σ : St) (H : Hp) (Q : Option Int -> Hp -> Prop), Inv X pins σ H s -> t σ H Q ->
   wpAny (model X.prog X.w) X.A (evalPart e X.env) (fun u s' => ∃ o H', Inv X pins σ H' s' /\ IsPart u o /\ Q o H') X.xe s
noncomputable def tNoPart : TO := fun _ H Q => Q none H
noncomputable def tPart (t : TE) : TO := fun σ H Q => t σ H fun x H1 => ∃ i, x = .int i /\ Q (some i) H1
theorem intsAre_of {ns : List Int} : ∀ {us : List Value}, Vals (ns.map V.int) us -> IntsAre us ns := by
 induction ns with
 | nil => intro us r; rw [List.map_nil] at r; cases r; exact .nil
 | cons n ns ih =>
   intro us r
   rw [List.map_cons] at r
   cases r with
   | cons r1 r2 =>
     obtain ⟨t, e⟩ := r1
     subst e
     exact .cons n t (ih r2)
section
variable {X : Cx} {e : Expr} {te : TE} {lo hi : Option Expr} {tl th : TO} {pos p2 : Pos}
theorem po_none : PO X none tNoPart := by
 intro pins s σ H Q I h
 rw [evalPart_none]
 exact wpAny_pure ⟨none, H, I, .none, h⟩
theorem po_some (h : PE X e te) : PO X (some e) (tPart te) := by
 intro pins s σ H Q I hw
 rw [evalPart_some]
 refine thn5 (h pins s σ H _ I hw) fun u s1 x H1 I1 r1 q1 => ?_
 obtain ⟨i, rfl, q⟩ := q1
 obtain ⟨t, rfl⟩ := r1
 exact ⟨some i, H1, I1, .int i t, q⟩
noncomputable def SlR (X : Cx) (r : V -> Option Int -> Option Int -> Hp -> VK -> Prop) : Prop :=
 ∀ (pins : List (Addr × Obj)) (s : Shared) (σ : St) (H : Hp) (x : V) (v vl vu : Value) (lo hi : Option Int) (sl : Addr) (Q : VK), Inv X pins σ H s -> RelV x v -> s.heap.IsSliceOf sl vl vu .none -> IsPart vl lo -> IsPart vu hi -> r x lo hi H Q ->
   ∃ T id, typeLookup (.type T) "__getitem__" = pure (some (.builtin id)) /\ s.TypeIs v T /\ wpAny (model X.prog X.w) X.A (getItem v (.ref sl)) (EP X pins σ Q) X.xe s
noncomputable def tSl (r : V -> Option Int -> Option Int -> Hp -> VK -> Prop) (te : TE) (tl th : TO) : TE := fun σ H Q => te σ H fun x H1 => tl σ H1 fun l H2 => th σ H2 fun u H3 => r x l u H3 Q
theorem pe_slice {r : V -> Option Int -> Option Int -> Hp -> VK -> Prop} (hr : SlR X r) (he : PE X e te) (hl : PO X lo tl) (hu : PO X hi th) : PE X (.Subscript e (.Slice lo hi none p2) pos) (tSl r te tl th) := by
 intro pins s σ H Q I h
 refine Subscript_ (thn5 (he pins s σ H _ I h) fun v s1 x H1 I1 r1 q1 => ?_)
 refine wpAny_Slice (thn5 (hl pins s1 σ H1 _ I1 q1) fun vl s2 l H2 I2 pl q2 => thn5 (hu pins s2 σ H2 _ I2 q2) fun vu s3 u H3 I3 pu q3 => ?_)
 rw [evalPart_none]
 refine wpAny_pure ?_
 have I4 : Inv X pins σ H3 { s3 with heap := s3.heap.push { cls := .type "slice", data := .fields #[vl, vu, .none] } } := I3.kept (t' := s3.toks) fun b ob q => Heap.get?_push_of_some _ q
 obtain ⟨T, id, hT, ht, hg⟩ := hr pins { s3 with heap := s3.heap.push { cls := .type "slice", data := .fields #[vl, vu, .none] } } σ H3 x v vl vu l u s3.heap.objs.size Q I4 r1 (Heap.IsSliceOf.new ..) pl pu q3
 show wpAny (model X.prog X.w) X.A (subscriptTail e (.Slice lo hi none p2) v (.ref s3.heap.objs.size)) (EP X pins σ Q) X.xe { s3 with heap := s3.heap.push { cls := .type "slice", data := .fields #[vl, vu, .none] } }
 exact tail_any (ops := [.ref s3.heap.objs.size, v]) ht hT hg (by with_unfolding_all rfl)
noncomputable def cutV (xs : List V) (lo hi : Option Int) : List V := (xs.drop (HT.sIx xs.length 0 lo)).take (HT.sIx xs.length xs.length hi - HT.sIx xs.length 0 lo)
theorem cutV_length (xs : List V) (lo hi : Option Int) : (cutV xs lo hi).length <= xs.length := by
 unfold cutV
 rw [List.length_take, List.length_drop]
 omega
noncomputable def rCatT (K : PySem.W.Frag) : R2 := fun x y H Q => ∃ a b xs ys, x = .ref a /\ y = .ref b /\ SqT K H a xs /\ SqT K H b ys /\ xs ≠ [] /\ xs.length + ys.length <= sizeLine /\
 (ys = [] -> Q (.ref a) H) /\ (ys ≠ [] -> ∀ p, H p = none -> Q (.ref p) (upd H p (.tup (xs ++ ys))))
theorem Vals.nil_iff {xs : List V} {us : List Value} (r : Vals xs us) : us = [] ↔ xs = [] := by
 cases r with
 | nil => simp
 | cons _ _ => simp
theorem op_catT : OpR X (binaryOp .Add) (rCatT X.K) := by
 intro pins s σ H x y v u Q I rx ry h
 obtain ⟨a, b, xs, ys, rfl, rfl, ha, hb, hx, hz, q1, q2⟩ := h
 cases rx
 cases ry
 obtain ⟨its, r1, p1, _⟩ := I.tuple ha
 obtain ⟨its2, r2, p2, _⟩ := I.tuple hb
 refine HT.cat_tup p1 p2 (fun z => hx (r1.nil_iff.mp z)) (fun z => ⟨.ref a, H, I, rfl, q1 (r2.nil_iff.mp z)⟩) (fun z => ?_) (by rw [<- r1.length, <- r2.length]; exact hz)
 refine ⟨.ref s.heap.objs.size, _, I.laid (t' := s.toks) (o := .tup (xs ++ ys)) (fun b ob q => Heap.get?_push_of_some _ q) (Nat.le_refl _) ?_, rfl, q2 (fun w => z (r2.nil_iff.mpr w)) _ (I.hok.fresh (Nat.le_refl _))⟩
 exact ⟨by rw [List.length_append]; exact hz, _, r1.append r2, IsTup.new _ _⟩
end
end L2
namespace L2
open PySem PySem.Spec PyProof.Rows
noncomputable def ixN (n : Nat) (i : Int) : Option Nat := if 0 <= i then (if i < n then some i.toNat else none) else if -(n : Int) <= i then some (i + n).toNat else none
noncomputable def atI {α : Type} (xs : List α) (i : Int) : Option α := (ixN xs.length i).bind fun j => xs[j]?
theorem ixN_seq {n : Nat} {i : Int} {j : Nat} (h : ixN n i = some j) : seqIndex? i n = some j /\ j < n /\ -(n : Int) <= i /\ i < n := by
 unfold ixN at h
 by_cases h0 : 0 <= i
 ·rw [if_pos h0] at h
  by_cases h1 : i < n
  ·rw [if_pos h1] at h
   have e : i.toNat = j := Option.some.inj h
   exact ⟨by rw [seqIndex_of h0 h1, e], by lia, by lia, h1⟩
  ·rw [if_neg h1] at h; cases h
 ·rw [if_neg h0] at h
  by_cases h1 : -(n : Int) <= i
  ·rw [if_pos h1] at h
   have e : (i + n).toNat = j := Option.some.inj h
   exact ⟨by rw [seqIndex_neg (by lia) h1, e], by lia, h1, by lia⟩
  ·rw [if_neg h1] at h; cases h
theorem atI_get {α : Type} {xs : List α} {i : Int} {v : α} (h : atI xs i = some v) : ∃ j, seqIndex? i xs.length = some j /\ xs[j]? = some v /\ j < xs.length /\ -(xs.length : Int) <= i /\ i < xs.length := by
 unfold atI at h
 cases e : ixN xs.length i with
 | none => rw [e] at h; cases h
 | some j =>
   rw [e] at h
   obtain ⟨h1, h2, h3, h4⟩ := ixN_seq e
   exact ⟨j, h1, h, h2, h3, h4⟩
theorem atI_nat {α : Type} {xs : List α} {j : Nat} {v : α} (h : xs[j]? = some v) : atI xs (j : Int) = some v := by
 have hj : j < xs.length := (List.getElem?_eq_some_iff.mp h).1
 have e : ixN xs.length (j : Int) = some j := by
  unfold ixN
  rw [if_pos (by lia), if_pos (by lia)]; simp
 unfold atI; rw [e]; exact h
noncomputable def PlainIx (b : Expr) : Prop := ∀ o i, subscripted b false o i = operate [o, i] (getItem o i)
noncomputable def IxR (X : Cx) (r : R2) : Prop :=
 ∀ (value slice : Expr) (pins : List (Addr × Obj)) (s : Shared) (σ : St) (H : Hp) (x y : V) (v u : Value) (Q : VK), Inv X pins σ H s -> RelV x v -> RelV y u -> r x y H Q ->
   subscripted slice false v u = operate [v, u] (getItem v u) -> wpAny (model X.prog X.w) X.A (subscriptTail value slice v u) (EP X pins σ Q) X.xe s
noncomputable def MtR (X : Cx) (id : String) (r : V -> List V -> Hp -> VK -> Prop) : Prop :=
 ∀ (pins : List (Addr × Obj)) (s : Shared) (σ : St) (H : Hp) (x : V) (xs : List V) (v : Value) (us : List Value) (Q : VK), Inv X pins σ H s -> RelV x v -> Vals xs us -> r x xs H Q ->
   wpAny (model X.prog X.w) X.A (call (.builtin id) (v :: us)) (EP X pins σ Q) X.xe s
section
variable {X : Cx} {a b : Expr} {ta tb : TE} {pos : Pos}
theorem IxR.or {r r' : R2} (h : IxR X r) (h' : IxR X r') : IxR X (fun x y H Q => r x y H Q \/ r' x y H Q) := by
 intro value slice pins s σ H x y v u Q I rx ry q hs
 rcases q with q | q
 ·exact h value slice pins s σ H x y v u Q I rx ry q hs
 ·exact h' value slice pins s σ H x y v u Q I rx ry q hs
theorem pe_ix {r : R2} (hr : IxR X r) (ha : PE X a ta) (hb : PE X b tb) (hs : PlainIx b) : PE X (.Subscript a b pos) (tOp r ta tb) := by
 intro pins s σ H Q I h
 exact Subscript_ (binT ha hb I h fun v u s2 x y H2 I2 rx ry q => hr a b pins s2 σ H2 x y v u Q I2 rx ry q (hs _ _))
noncomputable def rIxL (K : PySem.W.Frag) : R2 := fun x y H Q => ∃ p xs i v, x = .ref p /\ y = .int i /\ SqL K H p xs /\ atI xs i = some v /\ Q v H
noncomputable def rIxT (K : PySem.W.Frag) : R2 := fun x y H Q => ∃ p xs i v, x = .ref p /\ y = .int i /\ SqT K H p xs /\ atI xs i = some v /\ Q v H
noncomputable def rIxS : R2 := fun x y H Q => ∃ z i c, x = .str z /\ y = .int i /\ z.length <= sizeLine /\ atI z.cps.toList i = some c /\ Q (.str ⟨#[c]⟩) H
theorem ix_list : IxR X (rIxL X.K) := by
 intro value slice pins s σ H x y v u Q I rx ry h hs
 obtain ⟨p, xs, i, z, rfl, rfl, hq, he, q⟩ := h
 cases rx
 obtain ⟨t, rfl⟩ := ry
 obtain ⟨its, r, pl, hz⟩ := I.list hq
 obtain ⟨j, h1, h2, h3, h4, h5⟩ := atI_get he
 obtain ⟨w, ew, rw'⟩ := r.get h2
 have hl := r.length
 have hn := line63
 have fin : EP X pins σ Q w s := ⟨z, H, I, rw', q⟩
 by_cases h0 : 0 <= i
 ·have hj : i.toNat = j := by
   rw [seqIndex_of h0 h5] at h1
   exact Option.some.inj h1
  exact item_listR pl.isList h0 (by lia) (by rw [hj]; simpa using ew) fin hs
 ·have hj : (i + (its.toArray.size : Int)).toNat = j := by
   rw [seqIndex_neg (by lia) h4] at h1
   rw [List.size_toArray, <- hl]
   exact Option.some.inj h1
  exact subscriptTail_builtinR (x := w) pl.isList.typeIs slot_list_getitem.lookup
   (wpAny_getItem_list_neg (Q := fun r s' => r = w /\ EP X pins σ Q r s') pl.isList (by lia) (by rw [List.size_toArray] <;> lia) (by lia) (by rw [hj]; simpa using ew) ⟨rfl, fin⟩) hs
theorem ix_tup : IxR X (rIxT X.K) := by
 intro value slice pins s σ H x y v u Q I rx ry h hs
 obtain ⟨p, xs, i, z, rfl, rfl, hq, he, q⟩ := h
 cases rx
 obtain ⟨t, rfl⟩ := ry
 obtain ⟨its, r, pl, hz⟩ := I.tuple hq
 obtain ⟨j, h1, h2, h3, h4, h5⟩ := atI_get he
 obtain ⟨w, ew, rw'⟩ := r.get h2
 have hl := r.length
 have hn := line63
 have fin : EP X pins σ Q w s := ⟨z, H, I, rw', q⟩
 exact subscriptTail_builtinR (x := w) pl.typeIs slot_tuple_getitem.lookup
  (getItem_tuple (j := j) (Q := fun r s' => r = w /\ EP X pins σ Q r s') pl (by lia) (by lia) (by rw [List.size_toArray, <- hl]; exact h1) (by simpa using ew) ⟨rfl, fin⟩) hs
theorem ix_str : IxR X rIxS := by
 intro value slice pins s σ H x y v u Q I rx ry h hs
 obtain ⟨z, i, c, rfl, rfl, hz, he, q⟩ := h
 obtain ⟨t, rfl⟩ := rx
 obtain ⟨t', rfl⟩ := ry
 obtain ⟨j, h1, h2, h3, h4, h5⟩ := atI_get he
 have hl : z.cps.toList.length = z.length := by simp [Str.length]
 rw [hl] at h1 h4 h5
 have hn := line63
 exact tail_any (typeIs_str s z t) slot_str_getitem.lookup (getItem_str (c := c) (by
  have e1 : decide (i < -(2 ^ 63 : Int)) = false := decide_eq_false (by lia)
  have e2 : decide (i >= 2 ^ 63) = false := decide_eq_false (by lia)
  rw [e1, e2, Bool.or_false]) (by rw [h1]; simpa using h2) ⟨.str ⟨#[c]⟩, H, I.tok _, ⟨_, rfl⟩, q⟩) hs
noncomputable def rIx (K : PySem.W.Frag) : R2 := fun x y H Q => rIxL K x y H Q \/ rIxT K x y H Q \/ rIxS x y H Q
theorem ix_seq : IxR X (rIx X.K) := ix_list.or (ix_tup.or ix_str)
theorem slice_bounds (lo hi : Option Int) (n : Nat) : (sliceBounds lo hi none n).1 = ((HT.sIx n 0 lo : Nat) : Int) /\ (sliceBounds lo hi none n).2.1 = ((HT.sIx n n hi : Nat) : Int) /\ (sliceBounds lo hi none n).2.2 = 1 := by
 refine ⟨?_, ?_, rfl⟩
 ·cases lo with
  | none => simp [sliceBounds, HT.sIx]
  | some i =>
    simp only [sliceBounds, HT.sIx, Option.getD_none, show (1 : Int) > 0 by decide, if_true]
    by_cases h : i < 0
    ·simp only [h, if_true] <;> lia
    ·simp only [h, if_false] <;> lia
 ·cases hi with
  | none => simp [sliceBounds, HT.sIx]
  | some i =>
    simp only [sliceBounds, HT.sIx, Option.getD_none, show (1 : Int) > 0 by decide, if_true]
    by_cases h : i < 0
    ·simp only [h, if_true] <;> lia
    ·simp only [h, if_false] <;> lia
theorem slicePick_cut (its : List Value) (lo hi : Option Int) : slicePick its.toArray lo hi none = ((its.drop (HT.sIx its.length 0 lo)).take (HT.sIx its.length its.length hi - HT.sIx its.length 0 lo)).toArray := by
 obtain ⟨h1, h2, h3⟩ := slice_bounds lo hi its.toArray.size
 unfold slicePick
 rw [h1, h2, h3]
 simp only [sliceRange_one, pick_run, List.size_toArray] <;> rfl
noncomputable def rSlL (K : PySem.W.Frag) : V -> Option Int -> Option Int -> Hp -> VK -> Prop := fun x lo hi H Q => ∃ a xs, x = .ref a /\ SqL K H a xs /\ ∀ p, H p = none -> Q (.ref p) (upd H p (.lst (cutV xs lo hi)))
theorem sl_list : SlR X (rSlL X.K) := by
 intro pins s σ H x v vl vu lo hi sl Q I rx hs pl pu h
 obtain ⟨a, xs, rfl, hx, q⟩ := h
 cases rx
 obtain ⟨its, r, ht, hz⟩ := I.list hx
 have hlen := r.length
 refine ⟨"list", _, slot_list_getitem.lookup, ht.isList.typeIs, ?_⟩
 refine wpAny_getItem_list_slice ht.isList hs pl pu .none (by simp) ?_ (by rw [List.size_toArray] <;> lia)
 rw [slicePick_cut, <- hlen]
 refine ⟨.ref s.heap.objs.size, _, I.laid (t' := s.toks) (o := .lst (cutV xs lo hi)) (fun b ob q => Heap.get?_push_of_some _ q) (Nat.le_refl _) ?_, rfl, q _ (I.hok.fresh (Nat.le_refl _))⟩
 exact ⟨Nat.le_trans (cutV_length xs lo hi) hz, _, 0, (r.drop (HT.sIx xs.length 0 lo)).take (HT.sIx xs.length xs.length hi - HT.sIx xs.length 0 lo), Heap.get?_push_size _ rfl⟩
theorem call_len_seq : CallR X (.builtin "len") (fun xs H Q => ∃ p ys, xs = [.ref p] /\ (SqL X.K H p ys \/ SqT X.K H p ys) /\ Q (.int ys.length) H) := by
 intro pins s σ H xs us Q I r h
 obtain ⟨p, ys, rfl, hq, q⟩ := h
 obtain ⟨u, rfl, rx⟩ := vals1 r
 cases rx
 have hn := line63
 rcases hq with hq | hq
 ·obtain ⟨its, r', pl, hz⟩ := I.list hq
  have hlen := r'.length
  exact Calls.call_len_list pl.isList (by simp only [List.size_toArray] <;> lia) ⟨.int ys.length, H, I.tok _, ⟨s.toks + 1, by rw [List.size_toArray, hlen]⟩, q⟩
 ·obtain ⟨its, r', pl, hz⟩ := I.tuple hq
  have hlen := r'.length
  exact len_tuple pl (by simp only [List.size_toArray] <;> lia) ⟨.int ys.length, H, I.tok _, ⟨s.toks + 1, by rw [List.size_toArray, hlen]⟩, q⟩
theorem call_len_str : CallR X (.builtin "len") (fun xs H Q => ∃ z, xs = [.str z] /\ z.length <= sizeLine /\ Q (.int z.length) H) := by
 intro pins s σ H xs us Q I r h
 obtain ⟨z, rfl, hz, q⟩ := h
 obtain ⟨u, rfl, t, rfl⟩ := vals1 r
 have hn := line63
 exact len_str (by lia) ⟨.int z.length, H, I.tok _, ⟨_, rfl⟩, q⟩
theorem CallR.or {f : Value} {r r' : List V -> Hp -> VK -> Prop} (h : CallR X f r) (h' : CallR X f r') : CallR X f (fun xs H Q => r xs H Q \/ r' xs H Q) := by
 intro pins s σ H xs us Q I rs q
 rcases q with q | q
 ·exact h pins s σ H xs us Q I rs q
 ·exact h' pins s σ H xs us Q I rs q
theorem call_list_of : CallR X (.type "list") (fun xs H Q => ∃ p ys, xs = [.ref p] /\ (SqL X.K H p ys \/ SqT X.K H p ys) /\ ∀ l, H l = none -> Q (.ref l) (upd H l (.lst ys))) := by
 intro pins s σ H xs us Q I r h
 obtain ⟨p, ys, rfl, hq, q⟩ := h
 obtain ⟨u, rfl, rx⟩ := vals1 r
 cases rx
 have fin : ∀ (its : List Value), Vals ys its -> ys.length <= sizeLine -> ∀ (h' : Heap) (c' : Nat), (∀ b o', s.heap.get? b = some o' -> h'.get? b = some o') ->
   h'.get? s.heap.objs.size = some { cls := .type "list", dict := none, data := .seq its.toArray c', slots := #[] } -> EP X pins σ Q (.ref s.heap.objs.size) { s with heap := h' } := fun its r' hz h' c' kp e =>
  ⟨.ref s.heap.objs.size, _, I.laid (t' := s.toks) kp (Nat.le_refl _) (show ObjOk X.prog X.w _ h' _ (.lst ys) from ⟨hz, its, c', r', e⟩), rfl, q _ (I.hok.fresh (Nat.le_refl _))⟩
 rcases hq with hq | hq
 ·obtain ⟨its, r', pl, hz⟩ := I.list hq
  have hlen := r'.length
  obtain ⟨o, ho, hc, n, hd⟩ := pl.isList
  exact call_list_seq p (.inl rfl) ho hc hd (fun h' c' kp e => fin its r' hz h' c' kp e) (by simp only [List.size_toArray] <;> lia)
 ·obtain ⟨its, r', pl, hz⟩ := I.tuple hq
  have hlen := r'.length
  obtain ⟨o, ho, hc, n, hd⟩ := pl
  exact call_list_seq p (.inr rfl) ho hc hd (fun h' c' kp e => fin its r' hz h' c' kp e) (by simp only [List.size_toArray] <;> lia)
theorem call_tuple_of : CallR X (.type "tuple") (fun xs H Q => ∃ p ys, xs = [.ref p] /\ ((SqL X.K H p ys /\ ∀ l, H l = none -> Q (.ref l) (upd H l (.tup ys))) \/ (SqT X.K H p ys /\ Q (.ref p) H))) := by
 intro pins s σ H xs us Q I r h
 obtain ⟨p, ys, rfl, h⟩ := h
 obtain ⟨u, rfl, rx⟩ := vals1 r
 cases rx
 rcases h with ⟨hq, q⟩ | ⟨hq, q⟩
 ·obtain ⟨its, r', pl, hz⟩ := I.list hq
  have hlen := r'.length
  refine call_tuple_list pl.isList (fun h' kp => ?_) (by simp only [List.size_toArray] <;> lia)
  have I1 : Inv X pins σ H { s with heap := h' } := I.kept (t' := s.toks) kp
  have I2 : Inv X pins σ (upd H h'.objs.size (.tup ys)) { s with heap := h'.push { cls := .type "tuple", data := .seq its.toArray } } :=
   I1.laid (t' := s.toks) (fun b o e => Heap.get?_push_of_some _ e) (Nat.le_refl _) (show ObjOk X.prog X.w _ _ _ (.tup ys) from ⟨hz, its, r', IsTup.new _ _⟩)
  exact ⟨.ref h'.objs.size, _, I2, rfl, q _ (I1.hok.fresh (Nat.le_refl _))⟩
 ·obtain ⟨its, r', pl, hz⟩ := I.tuple hq
  exact call_tuple_same pl ⟨.ref p, H, I, rfl, q⟩
noncomputable def tyV (K : PySem.W.Frag) (T : String) (x : V) (H : Hp) : Prop := match x with
 | .str _ => T = "str"
 | .int _ => T = "int"
 | .ref p => (T = "list" /\ ∃ xs, SqL K H p xs) \/ (T = "tuple" /\ ∃ o, K.lookup p = some o /\ o.cls = .type "tuple" /\ o.dict = none) \/
   (T = "dict" /\ ((∃ kvs, H p = some (.dK kvs)) \/ ∃ kvs, H p = some (.dT kvs))) \/ (T = "set" /\ ∃ S n, H p = some (.set S n))
 | _ => False
theorem tyV_is {pins : List (Addr × Obj)} {σ : St} {H : Hp} {s : Shared} {T : String} {x : V} {v : Value} (I : Inv X pins σ H s) (r : RelV x v) (ty : tyV X.K T x H) :
  s.TypeIs v T /\ ∀ a, v = .ref a -> ∃ ob, s.heap.get? a = some ob /\ ob.dict = none := by
 cases x with
 | str z =>
   obtain ⟨t, rfl⟩ := r
   cases (show T = "str" from ty)
   exact ⟨typeIs_str s z t, fun _ e => nomatch e⟩
 | int i =>
   obtain ⟨t, rfl⟩ := r
   cases (show T = "int" from ty)
   exact ⟨typeIs_int s i t, fun _ e => nomatch e⟩
 | ref p =>
   cases r
   rcases ty with ⟨rfl, xs, hq⟩ | ⟨rfl, o, hk, hc, hd⟩ | ⟨rfl, hk⟩ | ⟨rfl, S, n, hk⟩
   ·obtain ⟨its, _, pl, _⟩ := I.list hq
    refine ⟨pl.isList.typeIs, fun a e => ?_⟩
    cases e
    obtain ⟨o, n, e, c, hd, _⟩ := pl
    exact ⟨o, e, hd⟩
   ·refine ⟨⟨o, I.kIn p o hk, hc⟩, fun a e => ?_⟩
    cases e
    exact ⟨o, I.kIn _ o hk, hd⟩
   ·have z : ∃ o, s.heap.get? p = some o /\ o.ExactDict := by
     rcases hk with ⟨kvs, hk⟩ | ⟨kvs, hk⟩
     ·obtain ⟨_, _, _, _, o, _, _, e, ex, _⟩ := I.hok p _ hk
      exact ⟨o, e, ex⟩
     ·obtain ⟨_, _, _, _, o, _, _, e, ex, _⟩ := I.hok p _ hk
      exact ⟨o, e, ex⟩
    obtain ⟨o, e, ex⟩ := z
    refine ⟨⟨o, e, ex.1⟩, fun a e2 => ?_⟩
    cases e2
    exact ⟨o, e, ex.2.1⟩
   ·obtain ⟨o, _, _, _, e, ex, _⟩ := I.hok p _ hk
    refine ⟨⟨o, e, ex.1⟩, fun a e2 => ?_⟩
    cases e2
    exact ⟨o, e, ex.2.1⟩
 | _ => exact False.elim ty
noncomputable def tBM0 (K : PySem.W.Frag) (T : String) (r : V -> List V -> Hp -> VK -> Prop) (to : TE) : TE := fun σ H Q => to σ H fun x H1 => tyV K T x H1 /\ r x [] H1 Q
noncomputable def tBM (K : PySem.W.Frag) (T : String) (r : V -> List V -> Hp -> VK -> Prop) (to : TE) (t : TA) : TE := fun σ H Q => to σ H fun x H1 => tyV K T x H1 /\ t σ H1 fun xs H2 => r x xs H2 Q
variable {o e : Expr} {es : List Expr} {to : TE} {t : TA} {name : Str} {apos cpos : Pos} {T id : String} {r : V -> List V -> Hp -> VK -> Prop}
theorem pe_bm0 (pa : PlainAttrs T) (slot : Slot T name id) (hty : typeOf (.builtin id) = pure (.type "method_descriptor")) (hm : MtR X id r) (ho : PE X o to)
  (hbase : attributeBase o name X.env (eval o X.env) = eval o X.env := by rfl) (hline : (apos.endLine == cpos.line) = true := by rfl) : PE X (.Call (.Attribute o name apos) [] [] cpos) (tBM0 X.K T r to) := by
 intro pins s σ H Q I h
 refine wpAny_Call_method0_late hbase hline (thn5 (ho pins s σ H _ I h) fun v s1 x H1 I1 r1 q9 => ?_)
 obtain ⟨ty, q1⟩ := q9
 obtain ⟨h1, h2⟩ := tyV_is I1 r1 ty
 exact ⟨T, id, pa, slot, hty, h1, h2, Calls.callWith_builtin rfl (PySem.evalArgs_none (hm pins s1 σ H1 x [] v [] Q I1 r1 .nil q1))⟩
theorem pe_bm (pa : PlainAttrs T) (slot : Slot T name id) (hty : typeOf (.builtin id) = pure (.type "method_descriptor")) (hm : MtR X id r) (ho : PE X o to) (ha : PA X (e :: es) t)
  (hbase : attributeBase o name X.env (eval o X.env) = eval o X.env := by rfl)
  (hfew : ((backTo cpos (starEach (e :: es) X.env)).all (fun x => !x.1) && (backToKw cpos (keywordEach [] X.env)).all (fun x => x.1.isSome)
   && decide ((e :: es).length + ([] : List Keyword).length + (if ([] : List Keyword).isEmpty then 0 else 1) < 30)) = true := by rfl)
  (hline : (apos.endLine == cpos.line) = true := by rfl) (hs : starEach (e :: es) X.env = (false, eval e X.env) :: starEach es X.env := by rfl) (hplain : (backTo cpos (starEach es X.env)).any (·.1) = false := by rfl) :
  PE X (.Call (.Attribute o name apos) (e :: es) [] cpos) (tBM X.K T r to t) := by
 intro pins s σ H Q I h
 refine wpAny_Call_method_late hbase hfew hline rfl (thn5 (ho pins s σ H _ I h) fun v s1 x H1 I1 r1 q9 => ?_)
 obtain ⟨ty, q1⟩ := q9
 obtain ⟨h1, h2⟩ := tyV_is I1 r1 ty
 refine ⟨T, id, pa, slot, hty, h1, h2, ?_⟩
 have hA := ha cpos pins s1 σ H1 _ I1 q1
 rw [hs] at hA ⊢
 refine Calls.callWith_builtin (by show (false || (backTo cpos (starEach es X.env)).any (·.1)) = false; rw [hplain] <;> rfl) (Calls.evalArgs_plain ?_)
 exact thn5 hA fun us s2 vs H2 I2 r2 q2 => hm pins s2 σ H2 x vs v us Q I2 r1 r2 q2
/- xs.append(e), list.index on a module's tuple .. are MtR facts of 06m -/
end
end L2
namespace L2
open PySem PySem.Spec PyProof.Rows
noncomputable def MtM (X : Cx) (id : String) (r : V -> List V -> Hp -> VK -> Prop) : Prop :=
 ∀ (pins : List (Addr × Obj)) (s : Shared) (σ : St) (H : Hp) (x : V) (xs : List V) (v : Value) (us : List Value) (Q : VK), Inv X pins σ H s -> RelV x v -> Vals xs us -> r x xs H Q ->
   wpAny (model X.prog X.w) X.A (call (.builtin id) (v :: us)) (EP X pins σ Q) X.xe s
theorem Vals.one : ∀ {x : V} {us : List Value}, Vals [x] us -> ∃ u, us = [u] /\ RelV x u := by
 intro x us h
 cases h with
 | cons r t => cases t; exact ⟨_, rfl, r⟩
theorem Vals.zero : ∀ {us : List Value}, Vals [] us -> us = []
 | _, .nil => rfl
theorem Vals.reverse {xs : List V} {us : List Value} (h : Vals xs us) : Vals xs.reverse us.reverse := by
 induction h with
 | nil => exact .nil
 | cons r t ih => rw [List.reverse_cons, List.reverse_cons]; exact Vals.append ih (.cons r .nil)
section
variable {X : Cx} {pins : List (Addr × Obj)} {σ : St} {H : Hp} {s : Shared} {l b : Addr} {xs ys zs : List V}
theorem Inv.lset {its its' : List Value} {n : Nat} {f : Array Value -> Array Value} {t' : Nat} (I : Inv X pins σ H s) (hH : H l = some (.lst xs))
  (e : s.heap.get? l = some { cls := .type "list", data := .seq its.toArray n }) (hf : f its.toArray = its'.toArray) (hv : Vals ys its') (hz : ys.length <= sizeLine) :
  Inv X pins σ (upd H l (.lst ys)) { s with heap := s.heap.update l (Obj.mapSeq f), toks := t' } := by
 have q := PySem.IsL.update e f
 rw [hf] at q
 refine I.write (x := l) (e := l) (by rw [hH]; exact trivial) (.inl rfl) (fun b' u hb hu => (Heap.get?_update_other s.heap (Obj.mapSeq f) (Ne.symm hb)).trans hu) ⟨_, q⟩ ?_
 exact ⟨hz, its', _, hv, q⟩
theorem Inv.lnew {its : List Value} {t' : Nat} (I : Inv X pins σ H s) (hv : Vals ys its) (hz : ys.length <= sizeLine) :
  Inv X pins σ (upd H s.heap.objs.size (.lst ys)) { s with heap := s.heap.push { cls := .type "list", data := .seq its.toArray }, toks := t' } :=
 I.laid (fun _ _ q => Heap.get?_push_of_some _ q) (Nat.le_refl _) ⟨hz, its, 0, hv, Heap.get?_push_size _ rfl⟩
theorem Inv.fresh (I : Inv X pins σ H s) : H s.heap.objs.size = none := I.hok.fresh (Nat.le_refl _)
theorem Inv.lstM (I : Inv X pins σ H s) (hH : H l = some (.lst xs)) : xs.length <= sizeLine /\ ∃ (its : List Value) (n : Nat), Vals xs its /\ xs.length = its.length /\ s.heap.get? l = some { cls := .type "list", data := .seq its.toArray n } := by
 obtain ⟨z, its, n, r, e⟩ := I.hok l _ hH
 exact ⟨z, its, n, r, r.length, e⟩
theorem notLongL {n : Nat} (h : n <= sizeLine) : Builtin.List.listTooLong n = false := by
 unfold Builtin.List.listTooLong
 exact decide_eq_false (by lia)
end
section
variable {X : Cx}
noncomputable def rAppend : V -> List V -> Hp -> VK -> Prop := fun x vs H Q => ∃ l xs y, x = .ref l /\ vs = [y] /\ H l = some (.lst xs) /\ xs.length < sizeLine /\ Q .non (upd H l (.lst (xs ++ [y])))
theorem mt_append : MtM X "list.append" rAppend := by
 intro pins s σ H x vs v us Q I rx rv h
 obtain ⟨l, xs, y, rfl, rfl, hH, hz, q⟩ := h
 cases rx
 obtain ⟨u, rfl, ru⟩ := rv.one
 obtain ⟨z, its, n, r, hl, e⟩ := I.lstM hH
 refine call_meets F.slot_list_append ⟨_, e, rfl⟩ F.entry_list_append (F.args_list_append_2 _ _) (PySem.list_append l its.toArray n u (by rw [List.size_toArray]; lia)) ⟨e, ?_⟩
 refine ⟨.non, _, I.lset (its' := its ++ [u]) hH e (by simp) (r.append (.cons ru .nil)) ?_, rfl, q⟩
 rw [List.length_append, List.length_singleton]
 lia
noncomputable def rExtend : V -> List V -> Hp -> VK -> Prop := fun x vs H Q => ∃ l b xs zs, x = .ref l /\ vs = [.ref b] /\ H l = some (.lst xs) /\ H b = some (.lst zs) /\ xs.length + zs.length <= sizeLine /\ Q .non (upd H l (.lst (xs ++ zs)))
theorem mt_extend : MtM X "list.extend" rExtend := by
 intro pins s σ H x vs v us Q I rx rv h
 obtain ⟨l, b, xs, zs, rfl, rfl, hH, hB, hz, q⟩ := h
 cases rx
 obtain ⟨u, rfl, ru⟩ := rv.one
 cases ru
 obtain ⟨z, its, n, r, hl, e⟩ := I.lstM hH
 obtain ⟨z2, its2, n2, r2, hl2, e2⟩ := I.lstM hB
 have hsz : its.toArray.size + its2.toArray.size <= sizeLine := by rw [List.size_toArray, List.size_toArray]; lia
 have hlong : ¬ (!its.toArray.isEmpty && Builtin.List.listTooLong (its.toArray.size + its2.toArray.size)) = true := by
  rw [notLongL hsz, Bool.and_false]
  exact Bool.false_ne_true
 refine call_meets F.slot_list_extend ⟨_, e, rfl⟩ F.entry_list_extend (F.args_list_extend_2 _ _)
  (AutoSeq1.list_extend_list_list_0 l its.toArray n b its2.toArray n2 hlong (by rw [List.size_toArray]; lia) (by lia)) ⟨e, e2, ?_⟩
 refine ⟨.non, _, I.lset (its' := its ++ its2) hH e (by simp) (r.append r2) ?_, rfl, q⟩
 rw [List.length_append]
 lia
noncomputable def rReverse : V -> List V -> Hp -> VK -> Prop := fun x vs H Q => ∃ l xs, x = .ref l /\ vs = [] /\ H l = some (.lst xs) /\ Q .non (upd H l (.lst xs.reverse))
theorem mt_reverse : MtM X "list.reverse" rReverse := by
 intro pins s σ H x vs v us Q I rx rv h
 obtain ⟨l, xs, rfl, rfl, hH, q⟩ := h
 cases rx
 have hus := rv.zero
 subst hus
 obtain ⟨z, its, n, r, hl, e⟩ := I.lstM hH
 refine call_meets F.slot_list_reverse ⟨_, e, rfl⟩ F.entry_list_reverse (F.args_list_reverse_1 _) (AutoSeq1.list_reverse_list_0 l its.toArray n (by rw [List.size_toArray]; lia)) ⟨e, ?_⟩
 refine ⟨.non, _, I.lset (its' := its.reverse) hH e (by simp) r.reverse ?_, rfl, q⟩
 rw [List.length_reverse]
 lia
end
section
variable {prog : Program} {w : World} {A : Around} {E : Value -> Shared -> Prop} {s : Shared}
end
section
variable {X : Cx}
end
end L2
namespace Att
open PySem PySem.W PySem.Calls PyProof.Rows
theorem ints_of_wellAll {P : Params} {h : Heap} : ∀ (ns : List Int) (vs : List Value), WellAll P h vs (ns.map WData.int) -> IntsAre vs ns := by
 intro ns
 induction ns with
 | nil =>
   intro vs w
   rw [List.map_nil] at w
   cases w
   exact .nil
 | cons n ns ih =>
   intro vs w
   rw [List.map_cons] at w
   cases w with
   | cons a b =>
     cases a
     exact .cons _ _ (ih _ b)
theorem script_of {l : OpenLaw} {n : Nat} (hn : l.most = some n) {P : Params} {h : Heap} {args : List WData} {vals : List Value}
  (hpre : l.row.toRowW.claim.pre args = true) (hwl : WellAll P h vals args) :
  ∃ a vs ns, vals = [Value.ref a] /\ args = [WData.list (ns.map WData.int)] /\ h.get? a = some { cls := .type "list", data := .seq vs.toArray } /\ IntsAre vs ns /\ ns.length <= n := by
 have hsh : WShape.hasAll [] args [.list .int] = true := (pre_splitW hpre).1
 have hc : l.pre.holds [] { args := args } = true := (pre_splitW hpre).2
 obtain ⟨d, r, rfl, h1, h2⟩ := hasAllW_cons hsh
 obtain rfl := hasAllW_nil h2
 obtain ⟨xs, rfl, h3⟩ := hasW_list h1
 obtain ⟨ns, rfl⟩ := items_int h3
 have hlen : ns.length <= n := by
  unfold OpenLaw.pre at hc
  have h4 : (WTm.not (.lt (.lit (.int (n : Int))) (.len (.arg 0)))).holds [] { args := [.list (ns.map .int)] } = true := by
   have h4 := (holds_andW hc).1
   rw [hn] at h4
   exact h4
  have h5 := condW_of h4 (w_not (w_lt w_lit (w_len_list (w_arg rfl))))
  rw [List.length_map] at h5
  refine Nat.le_of_not_lt fun q => ?_
  have q' : (n : Int) < ((ns.length : Nat) : Int) := by omega
  first
   | (rw [decide_eq_true q'] at h5; exact absurd h5 (by decide))
   | (simp at h5; omega)
 cases hwl with
 | cons w1 w2 =>
   cases w2
   cases w1 with
   | list ho hall => exact ⟨_, _, ns, rfl, rfl, ho, ints_of_wellAll ns _ hall, hlen⟩
theorem post_true (l : OpenLaw) (args : List WData) : l.row.toRowW.claim.post args (.bool true) args = true :=
 postW_of (r := l.row.toRowW) (X := (true == true))
  (show WShape.has [] (.bool true) .bool = true by first | rfl | decide | simp [WShape.has, WShape.arms, WShape.armsAll])
  (show (WTm.eq .res (.lit (.bool true))).value [] { args := args, res := some (.bool true), after := args } = some (.bool (true == true)) from w_eq_bool (w_res rfl) w_lit) rfl
theorem attach_call {l : OpenLaw} {n : Nat} {q : Program} {loose : List Str} {XP : (Str -> Option Value) -> Heap -> Prop} {YP : World -> Heap -> Prop} {d : DefRec}
  (hn : l.most = some n) (hdf : d.params.defaults = [])
  (call : ∀ (w : World) (s₀ s₁ : Shared) (mg mb : Str -> Option Value) (fa : Addr) (o : Obj) (pm cd doc : Value) (a : Addr) (vs : List Value) (ns : List Int),
   Ground q loose [] XP w s₀ mg mb s₁.heap -> YP w s₁.heap ->
   s₁.heap.get? fa = some o -> o.data = .func (docDef d.name d.params d.body d.scope pm cd doc) -> s₁.heap.CodeRec cd d.name -> mg d.name = some (.ref fa) ->
   s₁.heap.get? a = some { cls := .type "list", data := .seq vs.toArray } -> IntsAre vs ns -> ns.length <= n -> s₁.gens = #[] ->
   codeAny (model l.prog w) callerA (.call (.ref fa) ⟨[.ref a], []⟩) (fun r s' => r = .ok (.ret (.bool true)) /\ OldK s₁.heap s'.heap /\ s'.os = s₁.os /\ AllBare s'.gens) s₁) :
  WalkO q loose XP YP l.row.toRowW d [] (fun f vs => PySem.call f vs) := by
 intro w s₀ s₁ mg mb G Y fa o pm cd doc dV kV ho hd hcd hD hmg hg args vals as hpre hlay hrd hwl hlo
 obtain rfl : dV = .none := Dflts.none hD hdf
 obtain rfl : kV = .none := Dflts.noKw hD
 obtain ⟨a, vs, ns, rfl, rfl, hobj, hints, hlen⟩ := script_of hn hpre hwl
 refine enter_call (codeAny_mono (call w s₀ s₁ mg mb fa o pm cd doc a vs ns G Y ho (fd_plain hd) hcd hmg hobj hints hlen hg) fun r s' hq => ?_)
 obtain ⟨rfl, h2, h3, h4⟩ := hq
 exact ⟨.inl ⟨.bool true, .bool true, [], rfl, fun _ => rfl, .bool true, post_true l _, fun _ => ⟨List.Pairwise.nil, fun _ hm => (nomatch hm)⟩⟩, h2, h3, h4⟩
section
variable {prog : Program} {w : World} {A : Around} {E : Value -> Shared -> Prop} {s : Shared} {K : Frag}
end
end Att
namespace L2
open PySem PySem.Spec PyProof.Rows
theorem vals_ints : ∀ {vs : List Value} {ns : List Int}, IntsAre vs ns -> Vals (ns.map V.int) vs := by
 intro vs ns h
 induction h with
 | nil => exact .nil
 | cons n t h ih => exact .cons ⟨t, rfl⟩ ih
noncomputable def Only (H : Hp) : Prop := ∀ b, H b = none \/ ∃ o xs, H b = some (.frz o (.lst xs))
noncomputable def LsD (K : PySem.W.Frag) (H : Hp) (a : Addr) (xs : List V) : Prop :=
 Rd H a (.lst xs) \/ ∃ (its : List Value) (n : Nat), K.lookup a = some { cls := .type "list", data := .seq its.toArray n } /\ its.length <= sizeLine /\ Vals xs its
end L2
namespace L2
open PySem PySem.Spec PyProof.Rows
end L2
namespace L2
open PySem PySem.Spec PyProof.Rows
noncomputable def defArgs (s : Stmt) : Arguments := match s with
 | .FunctionDef _ a _ _ _ _ _ _ _ _ => a
 | _ => { posonlyargs := [], args := [], vararg := none, kwonlyargs := [], kw_defaults := [], kwarg := none, defaults := [] }
noncomputable def defBody (s : Stmt) : List Stmt := match s with
 | .FunctionDef _ _ b _ _ _ _ _ _ _ => b
 | _ => []
noncomputable def defScope (s : Stmt) : Scope := match s with
 | .FunctionDef _ _ _ _ _ _ sc _ _ _ => sc
 | _ => { kind := .function, names := [], isGenerator := false, isCoroutine := false }
noncomputable abbrev CX0 : CXT := fun _ _ _ _ _ _ => False
noncomputable abbrev E0 : XK := fun _ _ _ => False
theorem pass0 {X : Cx} : Passes CX0 X E0 := fun _ _ _ _ _ _ _ h => h.elim
structure Fun (K : PySem.W.Frag) (x qual : Str) (st : Stmt) (f : Addr) (fd : FuncData) : Prop where
 ex : ∃ (oc : Value) (od : Option Addr) (kV doc pm : Value) (an : Option Addr) (cdv ct : Value) (osl : Array (Option Value)),
  fd = PySem.W.fnOf x qual (defArgs st) (defBody st) (defScope st) .none kV doc pm an cdv ct /\ K.lookup f = some ⟨oc, od, .func fd, osl⟩ /\ PySem.W.codeIn K cdv qual = true
 kp : PySem.W.keepIn K (.ref f) = true
section
variable {P : Program} {w : World} {K : PySem.W.Frag} {mg : Str -> Option Value} {base : Heap}
theorem Fun.ok {x qual : Str} {st : Stmt} {f : Addr} {fd : FuncData} {N ps : List Str} {k : Nat} {sp : Sp} (F : Fun K x qual st f fd) (S : FnScope N ps (defScope st)) (len : ∀ vs H Q E, sp vs H Q E -> vs.length = ps.length)
  (hbody : ∀ (cdv : Value) (A : Around) (outer : List Env) (s : Shared) (H : Hp) (vs : List V) (Q : VK) (E : XK), Room k (A.deeper (envOfC qual (defScope st) s.heap.objs.size f cdv)) -> sp vs H Q E ->
   ∃ t, PSs (cxOf CX0 P w K mg base N qual (defScope st) f cdv A outer s H E).nox (defBody st) t /\ t { nx := fun _ H' => Q .non H', rt := Q } (start N vs) H) : FnOk P w K mg base CX0 (k + 1) f fd ps sp := by
 obtain ⟨oc, od, kV, doc, pm, an, cdv, ct, osl, rfl, lk, hcd⟩ := F.ex
 refine fn_of lk hcd S len fun A outer s H vs Q E hr hsp => ?_
 obtain ⟨t, h, q⟩ := hbody cdv A outer s H vs Q E hr hsp
 exact ⟨t, h.nox, q⟩
theorem Fun.binds {x qual : Str} {st : Stmt} {f : Addr} {fd : FuncData} {ps : List Str} (F : Fun K x qual st f fd)
  (h : ∀ (kV doc pm : Value) (an : Option Addr) (cdv ct : Value) (us : List Value), us.length = ps.length -> bindArgs (PySem.W.fnOf x qual (defArgs st) (defBody st) (defScope st) .none kV doc pm an cdv ct) ⟨us, []⟩ = pure (ps.zip us)) : Binds K fd ps [] := by
 obtain ⟨oc, od, kV, doc, pm, an, cdv, ct, osl, rfl, lk, hcd⟩ := F.ex
 exact .all (h kV doc pm an cdv ct)
theorem fun_mk {x qual : Str} {st : Stmt} {f : Addr} {oc : Value} {od an : Option Addr} {osl : Array (Option Value)} {kV doc pm cdv ct : Value} (l : K.lookup f = some ⟨oc, od, .func (PySem.W.fnOf x qual (defArgs st) (defBody st) (defScope st) .none kV doc pm an cdv ct), osl⟩)
  (c : PySem.W.codeIn K cdv qual = true) (k : PySem.W.keepIn K (.ref f) = true) : Fun K x qual st f (PySem.W.fnOf x qual (defArgs st) (defBody st) (defScope st) .none kV doc pm an cdv ct) := ⟨⟨oc, od, kV, doc, pm, an, cdv, ct, osl, rfl, l, c⟩, k⟩
end
noncomputable def visB : Option NameKind -> Bool
 | some .local => true
 | some .cell => true
 | some .free => true
 | _ => false
theorem vis_of {sc : Scope} {x : Str} (h : visB (sc.names.lookup x) = true) : Vis sc x := by
 unfold Vis
 cases e : sc.names.lookup x with
 | none => rw [e] at h; cases h
 | some k =>
   rw [e] at h
   cases k <;> first | exact .inl rfl | exact .inr (.inl rfl) | exact .inr (.inr rfl) | cases h
section
variable {X : Cx}
theorem pv (i : Nat) {x : Str} {pos : Pos} (hN : X.N[i]? = some x := by rfl) (hv : visB (X.env.scope.names.lookup x) = true := by rfl) (hd : (x == ("__debug__" : Str)) = false := by decide)
  (hcd : (x == ("__classdict__" : Str)) = false := by decide) : PE X (.Name x pos) (tVar i) := pe_var hN (vis_of hv) hd hcd
end
noncomputable def Same (H H' : Hp) : Prop := ∀ b o, H b = some o -> H' b = some o
theorem Same.refl (H : Hp) : Same H H := fun _ _ h => h
theorem Same.trans {H H1 H2 : Hp} (a : Same H H1) (b : Same H1 H2) : Same H H2 := fun c o h => b c o (a c o h)
theorem Same.free {H H' : Hp} (e : Same H H') {l : Addr} (h : H' l = Option.none) : H l = Option.none := by
 cases q : H l with
 | none => rfl
 | some o =>
   rw [e l o q] at h
   cases h
end L2
namespace L2
open PySem PySem.Spec PyProof.Rows
section
variable {κ : Type} [DecidableEq κ]
noncomputable def valV (kvs : List (κ × V)) (k : κ) : Option V := (kvs.find? fun kv => decide (kv.1 = k)).map (·.2)
noncomputable def putK (kvs : List (κ × V)) (k : κ) (v : V) : List (κ × V) :=
 if (kvs.any fun kv => decide (kv.1 = k)) = true then kvs.map (fun kv => if kv.1 = k then (kv.1, v) else kv) else kvs ++ [(k, v)]
theorem valV_pos {p : κ × V} {r : List (κ × V)} {k : κ} (e : p.1 = k) : valV (p :: r) k = some p.2 := by simp [valV, List.find?_cons, e]
theorem valV_neg {p : κ × V} {r : List (κ × V)} {k : κ} (e : ¬ p.1 = k) : valV (p :: r) k = valV r k := by simp [valV, List.find?_cons, e]
theorem valV_any (k : κ) : ∀ kvs : List (κ × V), (kvs.any fun kv => decide (kv.1 = k)) = (valV kvs k).isSome
 | [] => rfl
 | p :: r => by
   rw [List.any_cons]
   by_cases e : p.1 = k
   ·simp only [valV_pos e, decide_eq_true e, Bool.true_or, Option.isSome_some]
   ·rw [valV_neg e, decide_eq_false e, Bool.false_or]; exact valV_any k r
theorem length_putK (kvs : List (κ × V)) (k : κ) (v : V) : (putK kvs k v).length <= kvs.length + 1 := by
 unfold putK
 split
 ·rw [List.length_map]; lia
 ·rw [List.length_append, List.length_cons, List.length_nil]; lia
theorem RelO.isSome_eq {o : Option V} {u : Option Value} (r : RelO o u) : o.isSome = u.isSome := by
 cases o with
 | none => cases u with
   | none => rfl
   | some _ => exact (show False from r).elim
 | some _ => cases u with
   | none => exact (show False from r).elim
   | some _ => rfl
theorem KV.val {kvs : List (κ × V)} {vs : List (κ × Value)} (r : KV kvs vs) (k : κ) : RelO (valV kvs k) (valueAt vs k) := by
 unfold KV at r
 induction r with
 | nil => exact True.intro
 | @cons p q ps qs h t ih =>
   obtain ⟨h1, h2⟩ := h
   by_cases e : p.1 = k
   ·have e' : q.1 = k := h1.symm.trans e
    have b : valueAt (q :: qs) k = some q.2 := by simp [valueAt, List.find?_cons, e']
    rw [valV_pos e, b]; exact h2
   ·have e' : ¬ q.1 = k := fun z => e (h1.trans z)
    have b : valueAt (q :: qs) k = valueAt qs k := by simp [valueAt, List.find?_cons, e']
    rw [valV_neg e, b]; exact ih
theorem KV.any {kvs : List (κ × V)} {vs : List (κ × Value)} (r : KV kvs vs) (k : κ) : (kvs.any fun kv => decide (kv.1 = k)) = vs.any fun kv => decide (kv.1 = k) := by
 unfold KV at r
 induction r with
 | nil => rfl
 | cons h t ih => rw [List.any_cons, List.any_cons, ih, h.1]
theorem KV.repl {kvs : List (κ × V)} {vs : List (κ × Value)} (r : KV kvs vs) (k : κ) {y : V} {u : Value} (ry : RelV y u) :
  KV (kvs.map fun kv => if kv.1 = k then (kv.1, y) else kv) (vs.map fun kv => if kv.1 = k then (kv.1, u) else kv) := by
 unfold KV at r ⊢
 induction r with
 | nil => exact .nil
 | @cons p q ps qs h t ih =>
   rw [List.map_cons, List.map_cons]
   refine .cons ?_ ih
   obtain ⟨h1, h2⟩ := h
   by_cases e : p.1 = k
   ·rw [if_pos e, if_pos (h1.symm.trans e)]; exact ⟨h1, ry⟩
   ·rw [if_neg e, if_neg (fun z => e (h1.trans z))]; exact ⟨h1, h2⟩
theorem KV.put {kvs : List (κ × V)} {vs : List (κ × Value)} (r : KV kvs vs) (k : κ) {y : V} {u : Value} (ry : RelV y u) : KV (putK kvs k y) (stored vs k u) := by
 unfold putK stored
 rw [r.any k]
 by_cases e : (vs.any fun kv => decide (kv.1 = k)) = true
 ·rw [if_pos e, if_pos e]; exact r.repl k ry
 ·rw [if_neg e, if_neg e]; exact Paired.snoc r ⟨rfl, ry⟩
theorem KV.length {kvs : List (κ × V)} {vs : List (κ × Value)} (r : KV kvs vs) : kvs.length = vs.length := Paired.length r
end
theorem kV_is {P : Program} {w : World} {k : Key} {u : Value} (r : RelV (kV k) u) : (mixKind P w).is k u = true := by
 cases k with
 | inl i => obtain ⟨t, e⟩ := (show ∃ t, u = Value.int i t from r); subst e; exact mixKind_int P w i t
 | inr x => obtain ⟨t, e⟩ := (show ∃ t, u = Value.str x t from r); subst e; exact mixKind_str P w x t
theorem items_are {P : Program} {w : World} : ∀ {ks : List Key} {us : List Value}, Vals (ks.map kV) us -> ItemsAre (mixKind P w) ks us
 | [], _, r => by rw [List.map_nil] at r; cases r; exact .nil
 | k :: ks, _, r => by
   rw [List.map_cons] at r
   cases r with
   | cons h t => exact .cons (kV_is h) (items_are t)
noncomputable abbrev KT (H : Hp) : List (List Key × V) -> List (List Key × Addr × Value) -> Prop := Paired fun p q => p.1 = q.1 /\ TupT H q.2.1 (p.1.map kV) /\ RelV p.2 q.2.2
theorem KT.val {H : Hp} {kvs : List (List Key × V)} {xs : List (List Key × Addr × Value)} (r : KT H kvs xs) (k : List Key) : RelO (valV kvs k) ((atKey xs k).map (·.2)) := by
 induction r with
 | nil => exact True.intro
 | @cons p q ps qs h t ih =>
   obtain ⟨h1, _, h2⟩ := h
   by_cases e : p.1 = k
   ·have e' : q.1 = k := h1.symm.trans e
    have b : atKey (q :: qs) k = some q.2 := by simp [atKey, List.find?_cons, e']
    rw [valV_pos e, b]; exact h2
   ·have e' : ¬ q.1 = k := fun z => e (h1.trans z)
    have b : atKey (q :: qs) k = atKey qs k := by simp [atKey, List.find?_cons, e']
    rw [valV_neg e, b]; exact ih
theorem KT.repl {H : Hp} {kvs : List (List Key × V)} {xs : List (List Key × Addr × Value)} (r : KT H kvs xs) (k : List Key) {y : V} {u : Value} (ry : RelV y u) :
  KT H (kvs.map fun kv => if kv.1 = k then (kv.1, y) else kv) (xs.map (putAt k u)) := by
 induction r with
 | nil => exact .nil
 | @cons p q ps qs h t ih =>
   rw [List.map_cons, List.map_cons]
   refine .cons ?_ ih
   obtain ⟨h1, h2, h3⟩ := h
   unfold putAt
   by_cases e : p.1 = k
   ·rw [if_pos e, if_pos (h1.symm.trans e)]; exact ⟨h1, h2, ry⟩
   ·rw [if_neg e, if_neg (fun z => e (h1.trans z))]; exact ⟨h1, h2, h3⟩
theorem KT.put {H : Hp} {kvs : List (List Key × V)} {xs : List (List Key × Addr × Value)} (r : KT H kvs xs) (k : List Key) {b : Addr} {y : V} {u : Value} (hb : TupT H b (k.map kV)) (ry : RelV y u) :
  KT H (putK kvs k y) (storedH xs k b u) := by
 have e : (kvs.any fun kv => decide (kv.1 = k)) = (atKey xs k).isSome := by
  rw [valV_any, (r.val k).isSome_eq, Option.isSome_map]
 unfold putK storedH
 rw [e]
 by_cases q : (atKey xs k).isSome = true
 ·rw [if_pos q, if_pos q]; exact r.repl k ry
 ·rw [if_neg q, if_neg q]; exact Paired.snoc r ⟨rfl, hb, ry⟩
theorem KT.keeps {H H' : Hp} {kvs : List (List Key × V)} {xs : List (List Key × Addr × Value)} (r : KT H kvs xs) (ht : ∀ b ys, TupT H b ys -> TupT H' b ys) : KT H' kvs xs :=
 Paired.mapP r fun _ _ z => ⟨z.1, ht _ _ z.2.1, z.2.2⟩
section
variable {P : Program} {w : World} {H : Hp} {h : Heap} {a : Addr}
theorem rd_of {u : HO} (ok : HOk P w H h) (e : Rd H a u) : ObjOk P w H h a u := e.ok ok
theorem dk_rd {kvs : List (Key × V)} (ok : HOk P w H h) (e : Rd H a (.dK kvs)) : kvs.length <= sizeLine /\ (a == sysModules) = false /\ ∃ vs, KV kvs vs /\ h.DictOf (mixKind P w) a vs :=
 show ObjOk P w H h a (.dK kvs) from rd_of ok e
theorem dk_of {kvs : List (Key × V)} (ok : HOk P w H h) (e : H a = some (.dK kvs)) : kvs.length <= sizeLine /\ (a == sysModules) = false /\ ∃ vs, KV kvs vs /\ h.DictOf (mixKind P w) a vs := dk_rd ok (.inl e)
theorem key_of {ks : List Key} (ok : HOk P w H h) (e : TupT H a (ks.map kV)) : (tupleKind (mixKind P w)).is h ks a := by
 obtain ⟨_, its, r, o, h1, h2, n, h3⟩ := (show ObjOk P w H h a (.tup (ks.map kV)) from Rd.ok e ok)
 exact ⟨o, its.toArray, n, h1, h2, h3, by simpa using items_are r⟩
theorem dt_rd {kvs : List (List Key × V)} (ok : HOk P w H h) (e : Rd H a (.dT kvs)) : kvs.length <= sizeLine /\ (a == sysModules) = false /\
  ∃ xs, KT H kvs xs /\ h.DictOfH (tupleKind (mixKind P w)) a xs := by
 obtain ⟨z, y, xs, r, o, es, ep, h1, h2, h3, h4, h5⟩ := (show ObjOk P w H h a (.dT kvs) from rd_of ok e)
 refine ⟨z, y, xs, r, o, es, ep, h1, h2, h3, h4, fun x hx => ?_, h5⟩
 have all : ∀ {l : List (List Key × V)} {m : List (List Key × Addr × Value)}, KT H l m -> ∀ x ∈ m, (tupleKind (mixKind P w)).is h x.1 x.2.1 := by
  intro l m q
  induction q with
  | nil => intro x hx; exact nomatch hx
  | @cons p q ps qs hq t ih =>
    intro x hx
    rcases List.mem_cons.mp hx with e | hx
    ·subst e
     exact key_of ok (by rw [<- hq.1]; exact hq.2.1)
    ·exact ih x hx
 exact all r x hx
theorem dt_of {kvs : List (List Key × V)} (ok : HOk P w H h) (e : H a = some (.dT kvs)) : kvs.length <= sizeLine /\ (a == sysModules) = false /\
  ∃ xs, KT H kvs xs /\ h.DictOfH (tupleKind (mixKind P w)) a xs := dt_rd ok (.inl e)
end
noncomputable def DGet (H : Hp) (a : Addr) (y : V) (r : Option V) : Prop :=
 (∃ kvs k, Rd H a (.dK kvs) /\ y = kV k /\ r = valV kvs k) \/ ∃ kvs k b, Rd H a (.dT kvs) /\ y = .ref b /\ TupT H b (k.map kV) /\ r = valV kvs k
noncomputable def DPut (H : Hp) (a : Addr) (y v : V) (H' : Hp) : Prop :=
 (∃ kvs k, H a = some (.dK kvs) /\ y = kV k /\ kvs.length < sizeLine /\ H' = upd H a (.dK (putK kvs k v))) \/
 ∃ kvs k b, H a = some (.dT kvs) /\ y = .ref b /\ TupT H b (k.map kV) /\ kvs.length < sizeLine /\ H' = upd H a (.dT (putK kvs k v))
theorem DGet.t {H : Hp} {a b : Addr} {kvs : List (List Key × V)} {k : List Key} (e : H a = some (.dT kvs)) (eb : TupT H b (k.map kV)) : DGet H a (.ref b) (valV kvs k) := .inr ⟨kvs, k, b, .inl e, rfl, eb, rfl⟩
theorem DPut.t {H : Hp} {a b : Addr} {kvs : List (List Key × V)} {k : List Key} {v : V} (e : H a = some (.dT kvs)) (eb : TupT H b (k.map kV)) (hl : kvs.length < sizeLine) :
  DPut H a (.ref b) v (upd H a (.dT (putK kvs k v))) := .inr ⟨kvs, k, b, e, rfl, eb, hl, rfl⟩
section
variable {X : Cx} {pins : List (Addr × Obj)} {σ : St} {H : Hp} {s : Shared} {a : Addr} {y v : V} {u r : Value} {o : Option V} {A : Around} {E : Value -> Shared -> Prop}
theorem Inv.big (I : Inv X pins σ H s) : sysModules < s.heap.objs.size := by
 have h : mainGlobals < s.heap.objs.size := (I.mod.glob.keeps I.bk).lt
 exact Nat.lt_trans (by decide) h
theorem d_in {Q : Value -> Shared -> Prop} (hu : A.units + 1 < cLine) (I : Inv X pins σ H s) (g : DGet H a y o) (ry : RelV y u) (h : ∀ s', Inv X pins σ H s' -> Q (.bool o.isSome) s') :
  wpAny (model X.prog X.w) A (compareOp .In u (.ref a)) Q E s := by
 rcases g with ⟨kvs, k, e, ey, l⟩ | ⟨kvs, k, b, e, ey, eb, l⟩
 ·subst ey
  obtain ⟨z, hd, vs, rel, dd⟩ := dk_rd I.hok e
  refine wpAny_in_of (kV_is ry) hd dd.mapOf ?_
  rw [<- (rel.val k).isSome_eq, <- l]
  exact h _ (I.tok _)
 ·subst ey
  cases (show u = Value.ref b from ry)
  obtain ⟨z, hd, xs, rel, dd⟩ := dt_rd I.hok e
  refine wpAny_in_heap (tupleKind_room_in1 hu) (key_of I.hok eb) hd dd ?_
  have q := (rel.val k).isSome_eq
  rw [Option.isSome_map] at q
  rw [<- q, <- l]
  exact h _ (I.tok _)
theorem d_notIn {Q : Value -> Shared -> Prop} (hu : A.units + 1 < cLine) (I : Inv X pins σ H s) (g : DGet H a y o) (ry : RelV y u) (h : ∀ s', Inv X pins σ H s' -> Q (.bool (!o.isSome)) s') :
  wpAny (model X.prog X.w) A (compareOp .NotIn u (.ref a)) Q E s := by
 rcases g with ⟨kvs, k, e, ey, l⟩ | ⟨kvs, k, b, e, ey, eb, l⟩
 ·subst ey
  obtain ⟨z, hd, vs, rel, dd⟩ := dk_rd I.hok e
  refine wpAny_notIn_of (kV_is ry) hd dd.mapOf ?_
  rw [<- (rel.val k).isSome_eq, <- l]
  exact h _ (I.tok _)
 ·subst ey
  cases (show u = Value.ref b from ry)
  obtain ⟨z, hd, xs, rel, dd⟩ := dt_rd I.hok e
  refine wpAny_notIn_heap (tupleKind_room_in1 hu) (key_of I.hok eb) hd dd ?_
  have q := (rel.val k).isSome_eq
  rw [Option.isSome_map] at q
  rw [<- q, <- l]
  exact h _ (I.tok _)
theorem d_write {h' : Heap} {t' : Nat} {ob : HO} (I : Inv X pins σ H s) (mu : Mut (H a)) (hs : Heap.SameBut a s.heap h') (he : ∃ q, h'.get? a = some q) (new : ObjOk X.prog X.w (upd H a ob) h' a ob) :
  Inv X pins σ (upd H a ob) { s with heap := h', toks := t' } :=
 I.write (x := a) (e := a) mu (.inl rfl) (fun b q hb z => (hs.2 b hb).trans z) he new
theorem dk_new {P : Program} {w : World} {H' : Hp} {h' : Heap} {kvs : List (Key × V)} {vs : List (Key × Value)} (z : kvs.length <= sizeLine) (hd : (a == sysModules) = false) (rel : KV kvs vs) (dd : h'.DictOf (mixKind P w) a vs) :
  ObjOk P w H' h' a (.dK kvs) := ⟨z, hd, vs, rel, dd⟩
theorem d_setItem {H' : Hp} {Q : Unit -> Shared -> Prop} (hu : A.units + 1 < cLine) (I : Inv X pins σ H s) (g : DPut H a y v H') (ry : RelV y u) (rv : RelV v r) (h : ∀ s', Inv X pins σ H' s' -> Q () s') :
  wpAny (model X.prog X.w) A (setItem (.ref a) u r) Q E s := by
 rcases g with ⟨kvs, k, e, ey, l, eH⟩ | ⟨kvs, k, b, e, ey, eb, l, eH⟩
 ·subst ey eH
  obtain ⟨z, hd, vs, rel, dd⟩ := dk_of I.hok e
  have hz : vs.length <= sizeLine := by rw [<- rel.length]; exact z
  have hl : (putK kvs k v).length <= sizeLine := by have := length_putK kvs k v; lia
  refine wpAny_setItem_pairs (hsz := hz) (kV_is ry) dd fun h' dd' hs => h _ ?_
  have he : ∃ q, h'.get? a = some q := let ⟨q, _, _, hq, _⟩ := dd'; ⟨q, hq⟩
  exact d_write I (by rw [e]; exact True.intro) hs he (dk_new hl hd (rel.put k rv) dd')
 ·subst ey eH
  cases (show u = Value.ref b from ry)
  obtain ⟨z, hd, xs, rel, dd⟩ := dt_of I.hok e
  have hz : xs.length <= sizeLine := by rw [<- Paired.length rel]; exact z
  have hl : (putK kvs k v).length <= sizeLine := by have := length_putK kvs k v; lia
  refine wpAny_setItem_heap (hsz := hz) (tupleKind_room_in1 hu) (key_of I.hok eb) dd fun h' dd' hs => h _ ?_
  obtain ⟨q, es, ep, hq, h2, h3, h4, _, h5⟩ := dd'
  refine d_write I (by rw [e]; exact True.intro) hs ⟨q, hq⟩ ⟨hl, hd, _, (rel.put k eb rv).keeps fun c ys ec => ?_, q, es, ep, hq, h2, h3, h4, h5⟩
  exact ec.dT e
end
section
variable {X : Cx} {pins : List (Addr × Obj)} {σ : St} {H : Hp} {s : Shared} {a : Addr} {kvs : List (Key × V)} {k : Key} {u : Value} {A : Around} {E : Value -> Shared -> Prop}
end
noncomputable def tDIn (ty td : TE) : TE := fun σ H Q => ty σ H fun y H1 => td σ H1 fun x H2 => ∃ a o, x = .ref a /\ DGet H2 a y o /\ Q (.bl o.isSome) H2
noncomputable def tDNotIn (ty td : TE) : TE := fun σ H Q => ty σ H fun y H1 => td σ H1 fun x H2 => ∃ a o, x = .ref a /\ DGet H2 a y o /\ Q (.bl (!o.isSome)) H2
noncomputable def sDPut (td ty tv : TE) : TS := fun D σ H => tv σ H fun v H1 => td σ H1 fun x H2 => ty σ H2 fun y H3 => ∃ a H4, x = .ref a /\ DPut H3 a y v H4 /\ D.nx σ H4
section
variable {X : Cx} {o i e value : Expr} {pos pos' tpos : Pos} {td ty tv : TE}
theorem pc_din (hu : X.A.units + 1 < cLine) (hi : PE X i ty) (ho : PE X o td) : PC X .In i o (tDIn ty td) := by
 intro pins s σ H Q I h
 refine thn5 (hi pins s σ H _ I h) fun iv s1 y H1 I1 ry q1 => thn5 (ho pins s1 σ H1 _ I1 q1) fun u s2 x H2 I2 rx q9 => ?_
 obtain ⟨a, ov, ex, g, q2⟩ := q9
 subst ex
 obtain rfl : u = Value.ref a := rx
 exact d_in hu I2 g ry fun s3 I3 => ⟨.bl ov.isSome, H2, I3, rfl, q2⟩
theorem pc_dnotin (hu : X.A.units + 1 < cLine) (hi : PE X i ty) (ho : PE X o td) : PC X .NotIn i o (tDNotIn ty td) := by
 intro pins s σ H Q I h
 refine thn5 (hi pins s σ H _ I h) fun iv s1 y H1 I1 ry q1 => thn5 (ho pins s1 σ H1 _ I1 q1) fun u s2 x H2 I2 rx q9 => ?_
 obtain ⟨a, ov, ex, g, q2⟩ := q9
 subst ex
 obtain rfl : u = Value.ref a := rx
 exact d_notIn hu I2 g ry fun s3 I3 => ⟨.bl (!ov.isSome), H2, I3, rfl, q2⟩
theorem ps_dput (hu : X.A.units + 1 < cLine) (ho : PE X o td) (hi : PE X i ty) (hv : PE X value tv) (hs : swapsWith value (some (.Subscript o i pos')) pos.line X.env = pure false) :
  PS X (.Assign [.Subscript o i pos'] value pos) (sDPut td ty tv) := by
 intro pins s σ H D I h
 refine wpAny_Assign_Subscript (thn5 (hv pins s σ H _ I h) fun r s1 v H1 I1 rv q1 => thn5 (ho pins s1 σ H1 _ I1 q1) fun u s2 x H2 I2 rx q2 => thn5 (hi pins s2 σ H2 _ I2 q2) fun iv s3 y H3 I3 ry q9 => ?_) hs
 obtain ⟨a, H4, ex, g, q3⟩ := q9
 subst ex
 obtain rfl : u = Value.ref a := rx
 exact d_setItem hu I3 g ry rv fun s4 I4 => ⟨σ, H4, I4, q3⟩
end
theorem dt_empty {P : Program} {w : World} {H : Hp} (h : Heap) (hb : sysModules < h.objs.size) : ObjOk P w H (h.push { cls := .type "dict", data := .dict #[] }) h.objs.size (.dT []) :=
 ⟨Nat.zero_le _, beq_eq_false_iff_ne.mpr (Ne.symm (Nat.ne_of_lt hb)), [], .nil, _, #[], 0, Heap.get?_push_size _ rfl, ⟨rfl, rfl, rfl⟩, rfl, rfl, List.nodup_nil⟩
noncomputable def tDNewT : TE := fun _ H Q => ∀ p, H p = none -> Q (.ref p) (upd H p (.dT []))
section
variable {X : Cx} {pos : Pos}
theorem pe_dnewT : PE X (.Dict [] [] pos) tDNewT := fun pins s σ H Q I h =>
 wpAny_Dict_empty ⟨.ref s.heap.objs.size, _, I.laid (a := s.heap.objs.size) (o := .dT []) (t' := s.toks) (fun _ _ q => Heap.get?_push_of_some _ q) (Nat.le_refl _) (dt_empty s.heap I.big), rfl, h _ (I.hok.fresh (Nat.le_refl _))⟩
end
noncomputable def tPairs : List (TE × TE) -> St -> Hp -> (List (V × V) -> Hp -> Prop) -> Prop
 | [], _, H, Q => Q [] H
 | (tk, tv) :: r, σ, H, Q => tk σ H fun x H1 => tv σ H1 fun y H2 => tPairs r σ H2 fun ps H3 => Q ((x, y) :: ps) H3
noncomputable abbrev VV : List (V × V) -> List (Value × Value) -> Prop := Paired fun p q => RelV p.1 q.1 /\ RelV p.2 q.2
noncomputable def PPs (X : Cx) (pos : Pos) (keys : List (Option Expr)) (values : List Expr) (trs : List (TE × TE)) : Prop :=
 ∀ (pins : List (Addr × Obj)) (s : Shared) (σ : St) (H : Hp) (Q : List (V × V) -> Hp -> Prop), Inv X pins σ H s -> tPairs trs σ H Q ->
   wpAny (model X.prog X.w) X.A (evalPairs (pairTrees keys values X.env pos)) (fun vs s' => ∃ ps H', Inv X pins σ H' s' /\ VV ps vs /\ Q ps H') X.xe s
theorem pps_nil {X : Cx} {pos : Pos} : PPs X pos [] [] [] := fun pins s σ H Q I h => pairTrees_nil_walk ⟨[], H, I, .nil, h⟩
theorem pps_cons {X : Cx} {pos : Pos} {k v : Expr} {ks : List (Option Expr)} {vs : List Expr} {tk tv : TE} {trs : List (TE × TE)} (hk : PE X k tk) (hv : PE X v tv) (hr : PPs X pos ks vs trs) :
  PPs X pos (some k :: ks) (v :: vs) ((tk, tv) :: trs) := fun pins s σ H Q I h =>
 pairTrees_cons_walk (thn5 (hk pins s σ H _ I h) fun u s1 x H1 I1 rx q1 => thn5 (hv pins s1 σ H1 _ I1 q1) fun w2 s2 y H2 I2 ry q2 =>
  thn5 (hr pins s2 σ H2 _ I2 q2) fun ws s3 ps H3 I3 rel q3 => ⟨(x, y) :: ps, H3, I3, .cons ⟨rx, ry⟩ rel, q3⟩)
section
variable {X : Cx} {pins : List (Addr × Obj)} {σ : St} {H : Hp} {s : Shared} {a : Addr} {y d : V} {u r : Value} {o : Option V} {A : Around} {E : Value -> Shared -> Prop}
end
section
variable {X : Cx} {o e f : Expr} {apos cpos : Pos} {td ty tx : TE}
end
end L2
set_option maxHeartbeats 4000000
namespace L2
open PySem PySem.Spec PyProof.Rows
section
variable {X : Cx}
theorem op_mulB : OpR X (binaryOp .Mult) (rI IntMulOk fun i j => .int (i * j)) := opI fun _ _ _ _ _ _ _ hc q => mul_int q hc
noncomputable def CDivS (i j : Int) : Prop := j ≠ 0 /\ Builtin.divisionGoesByPylong i j = false
theorem op_fdivS : OpR X (binaryOp .FloorDiv) (rI CDivS fun i j => .int (i.fdiv j)) := opI fun _ _ _ _ _ _ _ hc q => floordiv_int hc.1 q (.inl hc.2)
theorem nopy_bits {i j : Int} (h : Builtin.Int.intBits j <= 9000) : Builtin.divisionGoesByPylong i j = false := by
 refine PyProof.noPylong_of_log2 ?_
 unfold Builtin.Int.intBits at h
 by_cases hj : j = 0
 ·subst hj; decide +kernel
 ·rw [if_neg (by simpa using hj)] at h
  lia
theorem mul_right {i j : Int} (h1 : -(2 ^ 64) < j) (h2 : j < 2 ^ 64) : IntMulOk i j := .of_right (intBits_le_64 h1 h2)
noncomputable def TyW (K : PySem.W.Frag) (H : Hp) (x : V) (t : String) : Prop :=
 TyOf K H x (.type t) \/ (∃ a xs, x = .ref a /\ SqT K H a xs /\ t = "tuple") \/ (∃ a xs, x = .ref a /\ SqL K H a xs /\ t = "list")
noncomputable def rIsi (K : PySem.W.Frag) : List V -> Hp -> VK -> Prop := fun xs H Q => ∃ x n t b, xs = [x, .ty n] /\ TyW K H x t /\ PySem.W.kitOne K (.type t) (.type n) = some b /\ Q (.bl b) H
theorem call_isi : CallR X (.builtin "isinstance") (rIsi X.K) := by
 intro pins s σ H xs us Q I r h
 obtain ⟨x, n, t, b, rfl, ty, e, q⟩ := h
 obtain ⟨u1, u2, rfl, r1, r2⟩ : ∃ u1 u2, us = [u1, u2] /\ RelV x u1 /\ RelV (.ty n) u2 := by
  cases r with
  | cons p q => cases q with
    | cons p' q' => cases q'; exact ⟨_, _, rfl, p, p'⟩
 cases (show u2 = Value.type n from r2)
 have fin : ∀ tk, EP X pins σ Q (.bool b) { s with toks := tk } := fun tk => ⟨.bl b, H, I.tok _, rfl, q⟩
 rcases ty with ty | ⟨a, ys, rfl, hq, rfl⟩ | ⟨a, ys, rfl, hq, rfl⟩
 ·exact isinst_ok I r1 ty e fin
 ·cases (show u1 = Value.ref a from r1)
  obtain ⟨its, _, p, _⟩ := I.tuple hq
  obtain ⟨o, h1, h2, _⟩ := p
  exact PySem.W.kia_one PySem.W.kitx_tuple I.kIn ⟨o, h1, h2⟩ e (fun z => nomatch z) fin
 ·cases (show u1 = Value.ref a from r1)
  obtain ⟨its, _, p, _⟩ := I.list hq
  obtain ⟨o, n, h1, h2, _⟩ := p
  exact PySem.W.kia_one PySem.W.kitx_list I.kIn ⟨o, h1, h2⟩ e (fun z => nomatch z) fin
theorem kit_same {K : PySem.W.Frag} {t : String} : PySem.W.kitOne K (.type t) (.type t) = some true := by
 unfold PySem.W.kitOne
 rw [if_pos (by simp)]
noncomputable def Dn (P : Program) (w : World) (K : PySem.W.Frag) (mg : Str -> Option Value) (base : Heap) (k : Nat) (x : Str) (ps : List Str) (sp : Sp) : Prop :=
 ∃ f fd, FnOk P w K mg base CX0 k f fd ps sp /\ mg x = some (.ref f) /\ PySem.W.keepIn K (.ref f) = true /\ Binds K fd ps []
theorem pe_fn {k kk : Nat} {x : Str} {ps : List Str} {sp : Sp} {e : Expr} {es : List Expr} {t : TA} {p pos : Pos} (D : Dn X.prog X.w X.K X.mg X.base k x ps sp) (hr : Room kk X.A) (hk : k <= kk) (ha : PA X (e :: es) t) (hg : Gl X x := by rfl)
  (hdb : (x == ("__debug__" : Str)) = false := by decide) (he : starEach (e :: es) X.env = (false, eval e X.env) :: starEach es X.env := by rfl) (hpl : (backTo pos (starEach es X.env)).any (·.1) = false := by rfl) :
  PE X (.Call (.Name x p) (e :: es) [] pos) (tCall sp [] E0 t) := by
 obtain ⟨f, fd, F, m, kp, b⟩ := D
 exact pe_call F (hr.mono hk) hg m kp b .nil pass0 ha hdb he hpl
structure Bs (mg : Str -> Option Value) : Prop where
 len : mg "len" = none
 range : mg "range" = none
 isinstance : mg "isinstance" = none
 max : mg "max" = none
 min : mg "min" = none
 int : mg "int" = none
 bool : mg "bool" = none
 tuple : mg "tuple" = none
 list : mg "list" = none
 abs : mg "abs" = none
 str : mg "str" = none
 sum : mg "sum" = none
 sorted : mg "sorted" = none
 reversed : mg "reversed" = none
 enumerate : mg "enumerate" = none
 set : mg "set" = none
 all : mg "all" = none
 zip : mg "zip" = none
 any : mg "any" = none
noncomputable def Df (K : PySem.W.Frag) (mg : Str -> Option Value) (x : Str) (st : Stmt) (ps : List Str) : Prop := ∃ f fd, Fun K x x st f fd /\ mg x = some (.ref f) /\ Binds K fd ps []
theorem Df.ok {P : Program} {w : World} {K : PySem.W.Frag} {mg : Str -> Option Value} {base : Heap} {x : Str} {st : Stmt} {N ps : List Str} {k : Nat} {sp : Sp} (F : Df K mg x st ps) (S : FnScope N ps (defScope st)) (len : ∀ vs H Q E, sp vs H Q E -> vs.length = ps.length)
  (hbody : ∀ (f : Addr) (cdv : Value) (A : Around) (outer : List Env) (s : Shared) (H : Hp) (vs : List V) (Q : VK) (E : XK), Room k (A.deeper (envOfC x (defScope st) s.heap.objs.size f cdv)) -> sp vs H Q E ->
   ∃ t, PSs (cxOf CX0 P w K mg base N x (defScope st) f cdv A outer s H E).nox (defBody st) t /\ t { nx := fun _ H' => Q .non H', rt := Q } (start N vs) H) : Dn P w K mg base (k + 1) x ps sp := by
 obtain ⟨f, fd, F, m, b⟩ := F
 exact ⟨f, fd, F.ok S len (hbody f), m, F.kp, b⟩
noncomputable def Cn (mg : Str -> Option Value) (x : Str) (v : V) : Prop := ∃ u, mg x = some u /\ RelV v u
theorem pe_cn {x : Str} {v : V} {pos : Pos} (c : Cn X.mg x v) (hg : Gl X x := by rfl) (hd : (x == ("__debug__" : Str)) = false := by decide) : PE X (.Name x pos) (tC v) := by
 obtain ⟨u, m, r⟩ := c
 exact pe_glob hg m r hd
end
theorem same_new {H : Hp} {p : Addr} (h : H p = none) (o : HO) : Same H (upd H p o) := fun b u q => by rw [upd_ne (ne_of_none q h)]; exact q
theorem Same.tup {K : PySem.W.Frag} {H H' : Hp} {a : Addr} {xs : List V} (e : Same H H') (h : SqT K H a xs) : SqT K H' a xs := by
 rcases h with (h | ⟨o, h⟩) | h
 ·exact .inl (.inl (e _ _ h))
 ·exact .inl (.inr ⟨o, e _ _ h⟩)
 ·exact .inr h
theorem small {n : Nat} (h : n <= 100000) : n <= sizeLine := Nat.le_trans h (by decide)
theorem small' {n : Nat} (h : n <= 100000) : n < sizeLine := Nat.lt_of_le_of_lt h (by decide)
end L2
namespace L2
open PySem PySem.Spec PyProof.Rows
section
variable {X : Cx}
end
theorem Same.upd {H H' : Hp} {l : Addr} (s : Same H H') (h : H l = none) (o : HO) : Same H (upd H' l o) := fun b u q => by rw [upd_ne (ne_of_none q h)]; exact s b u q
end L2
namespace L2
open PySem PySem.Spec PyProof.Rows
theorem bt_int : bootBuiltins "int" = some (.type "int") := by decide +kernel
theorem bt_bool : bootBuiltins "bool" = some (.type "bool") := by decide +kernel
theorem bt_tuple : bootBuiltins "tuple" = some (.type "tuple") := by decide +kernel
theorem bt_list : bootBuiltins "list" = some (.type "list") := by decide +kernel
theorem bt_str : bootBuiltins "str" = some (.type "str") := by decide +kernel
theorem bt_len : bootBuiltins "len" = some (.builtin "len") := by decide +kernel
theorem bt_abs : bootBuiltins "abs" = some (.builtin "abs") := by decide +kernel
theorem bt_max : bootBuiltins "max" = some (.builtin "max") := by decide +kernel
theorem bt_min : bootBuiltins "min" = some (.builtin "min") := by decide +kernel
theorem bt_isinstance : bootBuiltins "isinstance" = some (.builtin "isinstance") := by decide +kernel
section
variable {X : Cx}
end
end L2
namespace L2
open PySem PySem.Spec PyProof.Rows
section
variable {X : Cx}
end
end L2
namespace L2
open PySem PySem.Spec PyProof.Rows
section
variable {X : Cx}
theorem closure_of {scope : Scope} {env : Env} (h : ∀ y ∈ scope.names, y.2 = .free -> ∃ c, env.cells.lookup y.1 = some c) :
  ∃ cl : List (Str × Addr), closureFor scope env = pure cl /\ (∀ n c, cl.lookup n = some c -> env.cells.lookup n = some c) /\ ∀ n, (n, NameKind.free) ∈ scope.names -> ∃ c, cl.lookup n = some c := by
 have go : ∀ (l : List (Str × NameKind)) (cs : List (Str × Addr)), (∀ y ∈ l, y.2 = .free -> ∃ c, env.cells.lookup y.1 = some c) -> (∀ n c, cs.lookup n = some c -> env.cells.lookup n = some c) ->
   ∃ cl : List (Str × Addr), (forIn l cs fun x r => (match x with | (name, kind) => if (kind == NameKind.free) = true then (do let a <- cellOf env name; pure (ForInStep.yield ((name, a) :: r))) else pure (ForInStep.yield r) : Sem (ForInStep (List (Str × Addr))))) = (pure cl : Sem _) /\
     (∀ n c, cl.lookup n = some c -> env.cells.lookup n = some c) /\ (∀ n, (n, NameKind.free) ∈ l -> ∃ c, cl.lookup n = some c) /\ ∀ n c, cs.lookup n = some c -> ∃ c', cl.lookup n = some c' := by
  intro l
  induction l with
  | nil => intro cs _ hc; exact ⟨cs, rfl, hc, fun n hn => by simp at hn, fun n c e => ⟨c, e⟩⟩
  | cons y r ih =>
    intro cs hl hc
    obtain ⟨name, kind⟩ := y
    by_cases hk : kind = .free
    ·subst hk
     obtain ⟨c, e⟩ := hl (name, .free) List.mem_cons_self rfl
     have hc' : ∀ n d, ((name, c) :: cs).lookup n = some d -> env.cells.lookup n = some d := by
      intro n d q
      rw [List.lookup_cons] at q
      cases hb : n == name with
      | true => rw [hb] at q; cases q; rw [eq_of_beq hb]; exact e
      | false => rw [hb] at q; exact hc n d q
     obtain ⟨cl, h1, h2, h3, h4⟩ := ih ((name, c) :: cs) (fun y hy => hl y (List.mem_cons_of_mem _ hy)) hc'
     refine ⟨cl, ?_, h2, fun n hn => ?_, fun n d q => ?_⟩
     ·rw [List.forIn_cons]
      have ec : cellOf env name = pure c := by unfold cellOf; rw [e]
      simp only [beq_self_eq_true, if_true, ec, pure_bind]
      exact h1
     ·rcases List.mem_cons.mp hn with z | z
      ·cases z
       exact h4 name c (by rw [List.lookup_cons]; simp)
      ·exact h3 n z
     ·by_cases hb : n == name
      ·exact h4 n c (by rw [List.lookup_cons, hb])
      ·exact h4 n d (by rw [List.lookup_cons]; simp only [hb]; exact q)
    ·obtain ⟨cl, h1, h2, h3, h4⟩ := ih cs (fun y hy => hl y (List.mem_cons_of_mem _ hy)) hc
     refine ⟨cl, ?_, h2, fun n hn => ?_, h4⟩
     ·rw [List.forIn_cons]
      have eb : (kind == NameKind.free) = false := by simpa using hk
      simp only [eb, Bool.false_eq_true, if_false, pure_bind]
      exact h1
     ·rcases List.mem_cons.mp hn with z | z
      ·cases z; exact absurd rfl hk
      ·exact h3 n z
 obtain ⟨cl, h1, h2, h3, _⟩ := go scope.names [] h (fun n c e => by simp at e)
 refine ⟨cl, ?_, h2, h3⟩
 simp only [closureFor]
 rw [h1]
 rfl
noncomputable def compCx (X : Cx) (scope : Scope) (N' : List Str) (cl : List (Str × Addr)) (C : Addr) (s2 : Shared) (H2 : Hp) (fp : List Addr) (pins : List (Addr × Obj)) : Cx :=
 { X with N := N', s₀ := s2, H₀ := H2, env := compEnvC scope cl C X.env, outer := X.stack, stack := X.stack, ex := fp, fn := fun _ => false, pn := X.pn ++ pins, xe := fun _ _ => False }
noncomputable def capt (ix : List Nat) (σ : St) : St := ix.map fun j => (σ[j]?).join
section
variable {scope : Scope} {x : Str} {ix : List Nat} {N' : List Str} {cl : List (Str × Addr)} {C : Addr} {s2 s3 : Shared} {H2 : Hp} {fp : List Addr} {pins : List (Addr × Obj)} {σ : St}
theorem capt_get {j : Nat} {v : V} (h : (capt ix σ)[j]? = some (some v)) : ∃ i, ix[j]? = some i /\ σ[i]? = some (some v) := by
 unfold capt at h
 rw [List.getElem?_map] at h
 cases e : ix[j]? with
 | none => rw [e] at h; cases h
 | some i =>
   rw [e] at h
   have h' : (σ[i]?).join = some v := Option.some.inj h
   refine ⟨i, rfl, ?_⟩
   cases q : σ[i]? with
   | none => rw [q] at h'; cases h'
   | some w => rw [q] at h'; rw [show w = some v from h']
noncomputable abbrev lob (its : List Value) (n : Nat) : Obj := { cls := .type "list", data := .seq its.toArray n }
theorem Inv.track {X : Cx} {pins : List (Addr × Obj)} {σ : St} {H : Hp} {s : Shared} {D : Addr} {ys : List V} {its : List Value} {n : Nat} (I : Inv X pins σ H s) (hD : H D = none) (hs : X.s₀.heap.objs.size <= D) (hl : D ≠ X.env.locals) (hc : ∀ x c, X.env.cells.lookup x = some c -> c ≠ D)
  (hp : ∀ p ∈ X.pn ++ pins, p.1 ≠ D) (e : s.heap.get? D = some (lob its n)) (r : Vals ys its) (hz : ys.length <= sizeLine) : Inv X pins σ (upd H D (.lst ys)) s := by
 have h := I.step (H' := upd H D (.lst ys)) (h' := s.heap) (g' := s.gens) (t' := s.toks) (d' := s.drawn) (ch := [D]) (fun b hb => by
   have e : b = D := by simpa using hb
   subst e
   exact ⟨.inr hs, hl, hc, hp⟩)
  (fun b o _ _ _ q _ => q) (fun b o _ _ _ q _ => ⟨o.slots, q⟩) (fun b o hb _ q => by rw [upd_ne (by simpa using hb)]; exact q) (fun b o _ q => ⟨o, q⟩)
  (fun b xs q => by rw [upd_ne (ne_of_none q hD)]; exact q) (fun b o u q => by rw [upd_ne (ne_of_none q hD)]; exact q) (fun b ps q => ⟨#[], by rw [upd_ne (ne_of_none q hD), Array.append_empty]; exact q⟩) (fun m hm => hm) (fun b u q => ?_) I.bare
 ·exact h
 ·by_cases hb : b = D
  ·subst hb
   rw [upd_same] at q; cases q
   exact ⟨hz, its, n, r, e⟩
  ·rw [upd_ne hb] at q
   exact (I.hok b u q).stay (fun _ _ _ z => z) (fun c z => by rw [upd_ne (ne_of_none z hD)]; exact z) fun c xs z => z.new hD
theorem comp_exit (I0 : Inv X pins σ H2 s2) (hC : s2.heap.objs.size <= C) {D : Addr} (hD : s2.heap.objs.size <= D) (hf : ∀ b ∈ fp, FpOk X pins H2 b) {σ' : St} {H : Hp} {s1 : Shared} {ys : List V} {its : List Value} {n : Nat} {more : List (Addr × Obj)}
  (I : Inv (compCx X scope N' cl C s2 H2 fp pins) ((D, lob its n) :: more) σ' H s1) (r : Vals ys its) (hz : ys.length <= sizeLine) {h' : Heap} (hs : Heap.SameBut C s1.heap h') (hDC : D ≠ C) :
  Inv X pins σ (upd H D (.lst ys)) { s1 with heap := h' } := by
 have nC : ∀ b o, s2.heap.get? b = some o -> b ≠ C := fun b o e => Nat.ne_of_lt (Nat.lt_of_lt_of_le (Heap.lt_size e) hC)
 have B : Un (frs X.stack) fp H2 H s2.heap s1.heap := I.base
 have fC : H C = none := I.free
 have pD := I.pin (D, lob its n) (List.mem_append_right _ List.mem_cons_self)
 have u : Un (frs X.stack) fp H2 H s2.heap h' := ⟨fun b o e n hb hx => (hs.2 b (nC b o e)).trans (B.keep b o e n hb hx), fun b o e n hb hx => by
   obtain ⟨sl, q⟩ := B.slot b o e n hb hx
   exact ⟨sl, (hs.2 b (nC b o e)).trans q⟩, B.free, fun b o e hx => by
   obtain ⟨o', q⟩ := B.there b o e hx
   exact ⟨o', (hs.2 b (nC b o e)).trans q⟩, B.tups, B.frzs, B.tbls⟩
 have hok : HOk X.prog X.w H h' := fun b o e => (I.hok b o e).stay (fun c v hc q => (hs.2 c (by
   rintro rfl
   rcases hc with z | z
   ·subst z; rw [fC] at e; cases e
   ·rw [fC] at z; cases z)).trans q) (fun _ q => q) fun _ _ q => q
 have I1 : Inv X pins σ H { s1 with heap := h' } := I0.call' (s' := { s1 with heap := h' }) (ch := fp) I.os u hok I.bare fun b hb => ⟨(hf b hb).2.2.2.1, (hf b hb).2.1, (hf b hb).2.2.2.2.1, (hf b hb).2.2.2.2.2⟩
 refine I1.track (its := its) (n := n) pD.2.1 (Nat.le_trans I0.sz hD) (Nat.ne_of_gt (Nat.lt_of_lt_of_le I0.lt hD)) (fun a c e z => ?_) (fun p hp z => ?_) ((hs.2 D hDC).trans pD.1) r hz
 ·obtain ⟨v, q⟩ := I0.cell a c e
  exact absurd (Nat.lt_of_lt_of_le q.lt (by rw [z]; exact hD)) (Nat.lt_irrefl _)
 ·exact absurd (Nat.lt_of_lt_of_le (Heap.lt_size (I0.pin p hp).1) (by rw [z]; exact hD)) (Nat.lt_irrefl _)
end
section
variable {scope : Scope} {x : Str} {ix : List Nat} {N' : List Str} {elt iter : Expr} {px pos : Pos} {wi : TI} {te : TE}
end
noncomputable def relN (sc scope : Scope) : List (Str × NameKind) := scope.names.map fun (n, k) => if (k == .free && sc.kind == .function && sc.names.lookup n == some .cell) then (n, .cell) else (n, k)
theorem lookup_mem {n : Str} {k : NameKind} : ∀ {l : List (Str × NameKind)}, l.lookup n = some k -> (n, k) ∈ l
 | [], h => by simp at h
 | (a, b) :: r, h => by
   rw [List.lookup_cons] at h
   cases e : n == a with
   | true => rw [e] at h; cases h; rw [eq_of_beq e]; exact List.mem_cons_self
   | false => rw [e] at h; exact List.mem_cons_of_mem _ (lookup_mem h)
section
variable {scope : Scope} {x : Str} {elt iter : Expr} {px pos : Pos} {wi : TI} {te : TE}
end
end
end L2
namespace L2
open PySem PySem.Spec PyProof.Rows
section
variable {X : Cx} {pins : List (Addr × Obj)} {σ : St} {H : Hp} {s : Shared}
end
section
variable {X : Cx}
end
end L2
namespace L2
open PySem PySem.Spec PyProof.Rows
noncomputable abbrev D := PyData
noncomputable abbrev DS := List (Option D)
noncomputable def cstTab : List (Addr × List V) := []
noncomputable def lamTab : List (Addr × Pos × Str) := [(209, ⟨42, 22, 42, 69⟩, "plan_from.<locals>.<lambda>")]
theorem Same.tupT {H H' : Hp} {a : Addr} {xs : List V} (s : Same H H') (h : TupT H a xs) : TupT H' a xs := by
 rcases h with h | ⟨ob, h⟩
 ·exact .inl (s _ _ h)
 ·exact .inr ⟨ob, s _ _ h⟩
noncomputable def wo (H : Hp) (A : List Addr) : Hp := fun a => if a ∈ A then none else H a
section
variable {K : PySem.W.Frag} {H H' : Hp} {A A' : List Addr} {a l p r : Addr} {o : HO}
theorem wo_out (h : a ∉ A) : wo H A a = H a := by unfold wo; rw [if_neg h]
theorem wo_in (h : a ∈ A) : wo H A a = none := by unfold wo; rw [if_pos h]
theorem wo_some (h : wo H A a = some o) : a ∉ A /\ H a = some o := by
 unfold wo at h
 split at h
 ·cases h
 ·exact ⟨by assumption, h⟩
theorem wo_same : Same (wo H A) H := fun _ _ h => (wo_some h).2
theorem wo_mono (s : Same H H') : Same (wo H A) (wo H' A) := fun b u h => by
 obtain ⟨h1, h2⟩ := wo_some h
 rw [wo_out h1]; exact s b u h2
theorem wo_sub (h : ∀ a ∈ A', a ∈ A) : Same (wo H A) (wo H A') := fun b u q => by
 obtain ⟨h1, h2⟩ := wo_some q
 rw [wo_out fun z => h1 (h b z)]; exact h2
theorem wo_nil : wo H [] = H := by funext a; exact wo_out (by simp)
theorem wo_new (h : p ∉ A) : wo (upd H p o) A = upd (wo H A) p o := by
 funext a
 by_cases e : a = p
 ·subst e; rw [wo_out h, upd_same, upd_same]
 ·rw [upd_ne e]
  by_cases z : a ∈ A
  ·rw [wo_in z, wo_in z]
  ·rw [wo_out z, wo_out z, upd_ne e]
theorem wo_own (h : l ∈ A) : wo (upd H l o) A = wo H A := by
 funext a
 by_cases z : a ∈ A
 ·rw [wo_in z, wo_in z]
 ·rw [wo_out z, wo_out z, upd_ne]
  intro e; subst e; exact z h
theorem wo_cons_new (h : H r = none) : wo (upd H r o) (r :: A) = wo H A := by
 funext a
 by_cases e : a = r
 ·subst e
  rw [wo_in (by simp)]
  by_cases z : a ∈ A
  ·rw [wo_in z]
  ·rw [wo_out z, h]
 ·by_cases z : a ∈ A
  ·rw [wo_in (by simp [z]), wo_in z]
  ·rw [wo_out (by simp [e, z]), wo_out z, upd_ne e]
theorem wo_more (s : Same H H') (h : H r = none) : Same (wo H A) (wo H' (r :: A)) := fun b u q => by
 obtain ⟨h1, h2⟩ := wo_some q
 rw [wo_out (by simp only [List.mem_cons, not_or]; exact ⟨ne_of_none h2 h, h1⟩)]
 exact s b u h2
noncomputable def OwnO : HO -> Prop
 | .lst _ => True
 | .dT _ => True
 | _ => False
noncomputable def Ls (A : List Addr) (H : Hp) : Prop := (∀ a ∈ A, ∃ o, H a = some o /\ OwnO o) /\ (∀ p xs, (p, xs) ∈ cstTab -> TupT H p xs) /\ ∀ p y q, (p, y, q) ∈ lamTab -> H p = some (.lam y q)
theorem Ls.same (h : Ls A H) (s : Same H H') : Ls A H' := ⟨fun a ha => let ⟨o, e, q⟩ := h.1 a ha; ⟨o, s _ _ e, q⟩, fun p xs m => s.tupT (h.2.1 p xs m), fun p y q m => s _ _ (h.2.2 p y q m)⟩
theorem TupT.apart {xs : List V} (t : TupT H p xs) (e : H l = some o) (w : OwnO o) : p ≠ l := fun z => by
 subst z
 rcases t with t | ⟨ob, t⟩ <;> rw [e] at t <;> cases t <;> exact w
theorem TupT.wo {xs : List V} (t : TupT H p xs) (n : p ∉ A) : TupT (L2.wo H A) p xs := by
 rcases t with t | ⟨ob, t⟩
 ·exact .inl (by rw [wo_out n]; exact t)
 ·exact .inr ⟨ob, by rw [wo_out n]; exact t⟩
theorem Ls.free (h : Ls A H) (n : H p = none) : p ∉ A := fun z => by
 obtain ⟨ys, e, _⟩ := h.1 p z
 rw [n] at e; cases e
end
noncomputable def NoCtx (h : Heap) (e : Addr) : Prop := ∃ o fs, h.get? e = some o /\ o.data = .fields fs /\ fs[2]? = some Value.none
noncomputable def ExO (a C : Addr) : HO := .ext fun h => (∃ o, h.get? a = some o /\ o.cls = .ref C) /\ NoCtx h a
noncomputable def keyD : Key -> D := Sum.elim .int .str
mutual
inductive HD (K : PySem.W.Frag) (H : Hp) : V -> D -> Prop
 | non : HD K H .non .none
 | bl (b : Bool) : HD K H (.bl b) (.bool b)
 | int (i : Int) : HD K H (.int i) (.int i)
 | str (x : Str) : HD K H (.str x) (.str x)
 | lst {a : Addr} {xs : List V} {ds : List D} : LsD K H a xs -> HDs K H xs ds -> HD K H (.ref a) (.list ds)
 | tup {a : Addr} {xs : List V} {ds : List D} : TupT H a xs -> HDs K H xs ds -> HD K H (.ref a) (.tuple ds)
 | dct {a : Addr} {kvs : List (List Key × V)} {kds : List (D × D)} : H a = some (.dT kvs) -> kds.map (·.1) = kvs.map (fun p => PyData.tuple (p.1.map keyD)) -> HDs K H (kvs.map (·.2)) (kds.map (·.2)) -> HD K H (.ref a) (.dict kds)
 | fz {a : Addr} {ob : Obj} {kvs : List (List Key × V)} {kds : List (D × D)} : H a = some (.frz ob (.dT kvs)) -> kds.map (·.1) = kvs.map (fun p => PyData.tuple (p.1.map keyD)) -> HDs K H (kvs.map (·.2)) (kds.map (·.2)) -> HD K H (.ref a) (.dict ((.list [], .bool true) :: kds))
 | fn {f c a : Addr} {q : Str} {ob : Obj} {kvs : List (List Key × V)} {kds : List (D × D)} : H c = some (.code q) -> H a = some (.frz ob (.dT kvs)) -> kds.map (·.1) = kvs.map (fun p => PyData.tuple (p.1.map keyD)) -> HDs K H (kvs.map (·.2)) (kds.map (·.2)) -> HD K H (.ref f) (.dict [(.list [], .tuple [.int (f : Nat), .int (c : Nat), .int (a : Nat), .str q, .dict kds])])
 | exc {a C : Addr} {c : Str} : PySem.W.nsIn K mainGlobals c = some (some (.ref C)) -> H a = some (ExO a C) -> HD K H (.ref a) (.dict [(.list [], .tuple [.int (a : Nat), .str c])])
inductive HDs (K : PySem.W.Frag) (H : Hp) : List V -> List D -> Prop
 | nil : HDs K H [] []
 | cons {x : V} {xs : List V} {d : D} {ds : List D} : HD K H x d -> HDs K H xs ds -> HDs K H (x :: xs) (d :: ds)
end
theorem Same.rd {H H' : Hp} {a : Addr} {u : HO} (s : Same H H') (h : Rd H a u) : Rd H' a u := by
 rcases h with h | ⟨o, h⟩
 ·exact .inl (s _ _ h)
 ·exact .inr ⟨o, s _ _ h⟩
theorem LsD.of {K : PySem.W.Frag} {H : Hp} {a : Addr} {xs : List V} (h : H a = some (.lst xs)) : LsD K H a xs := .inl (.inl h)
theorem LsD.sq {K : PySem.W.Frag} {H : Hp} {a : Addr} {xs : List V} (h : LsD K H a xs) : SqL K H a xs := by
 rcases h with h | ⟨its, n, h1, h2, h3⟩
 ·exact .inl h
 ·exact .inr ⟨_, its.toArray, n, h1, rfl, rfl, rfl, by rw [List.size_toArray]; exact h2, by simpa using h3⟩
theorem LsD.same {K : PySem.W.Frag} {H H' : Hp} {a : Addr} {xs : List V} (s : Same H H') (h : LsD K H a xs) : LsD K H' a xs := by
 rcases h with h | h
 ·exact .inl (s.rd h)
 ·exact .inr h
theorem Inv.lsd {X : Cx} {pins : List (Addr × Obj)} {σ : St} {H : Hp} {s : Shared} {a : Addr} {xs : List V} (I : Inv X pins σ H s) (h : LsD X.K H a xs) : xs.length <= sizeLine /\ ∃ (its : List Value) (n : Nat), Vals xs its /\ s.heap.get? a = some { cls := .type "list", data := .seq its.toArray n } := by
 rcases h with h | ⟨its, n, h1, h2, h3⟩
 ·exact h.ok I.hok
 ·exact ⟨by rw [h3.length]; exact h2, its, n, h3, I.kIn a _ h1⟩
theorem HD.same {K : PySem.W.Frag} {H H' : Hp} (e : Same H H') {x : V} {d : D} (h : HD K H x d) : HD K H' x d :=
 HD.rec (motive_1 := fun x d _ => HD K H' x d) (motive_2 := fun x d _ => HDs K H' x d) .non .bl .int .str (fun hq _ i => .lst (hq.same e) i) (fun hq _ i => .tup (e.tupT hq) i) (fun hq k _ i => .dct (e _ _ hq) k i) (fun hq k _ i => .fz (e _ _ hq) k i) (fun h hq k _ i => .fn (e _ _ h) (e _ _ hq) k i) (fun k h => .exc k (e _ _ h)) .nil (fun _ _ i j => .cons i j) h
theorem HDs.same {K : PySem.W.Frag} {H H' : Hp} (e : Same H H') {x : List V} {d : List D} (h : HDs K H x d) : HDs K H' x d :=
 HDs.rec (motive_1 := fun x d _ => HD K H' x d) (motive_2 := fun x d _ => HDs K H' x d) .non .bl .int .str (fun hq _ i => .lst (hq.same e) i) (fun hq _ i => .tup (e.tupT hq) i) (fun hq k _ i => .dct (e _ _ hq) k i) (fun hq k _ i => .fz (e _ _ hq) k i) (fun h hq k _ i => .fn (e _ _ h) (e _ _ hq) k i) (fun k h => .exc k (e _ _ h)) .nil (fun _ _ i j => .cons i j) h
section
variable {X : Cx} {pins : List (Addr × Obj)} {σ : St} {H : Hp} {s : Shared}
theorem shaped_lay {d : D} (h : SeqAt.shaped d = true) : d.canLay0 = true := by
 unfold SeqAt.shaped at h
 rw [Bool.and_eq_true] at h
 exact h.1
theorem rd_lst (I : Inv X pins σ H s) {a : Addr} {xs : List V} {ds : List D} {u : Value} (hq : LsD X.K H a xs) (r : RelV (.ref a) u) (h : ∀ {us}, Vals xs us -> ∃ as, ReadsAll s.heap us ds as) : ∃ as, Reads s.heap u (.list ds) as := by
 cases (show u = Value.ref a from r)
 obtain ⟨its, rv, ⟨o, n, h1, h2, _, h3⟩, _⟩ := I.list hq.sq
 obtain ⟨as, q⟩ := h rv
 exact ⟨_, .list h1 h2 h3 (by simpa using q)⟩
theorem rd_tup (I : Inv X pins σ H s) {a : Addr} {xs : List V} {ds : List D} {u : Value} (hq : TupT H a xs) (r : RelV (.ref a) u) (h : ∀ {us}, Vals xs us -> ∃ as, ReadsAll s.heap us ds as) : ∃ as, Reads s.heap u (.tuple ds) as := by
 cases (show u = Value.ref a from r)
 obtain ⟨its, rv, ⟨o, h1, h2, n, h3⟩, _⟩ := I.tuple (.inl hq)
 obtain ⟨as, q⟩ := h rv
 exact ⟨_, .tuple h1 h2 h3 (by simpa using q)⟩
theorem HD.reads (I : Inv X pins σ H s) {x : V} {d : D} (h : HD X.K H x d) : ∀ {u : Value}, RelV x u -> PyData.canLay0 d = true -> ∃ as, Reads s.heap u d as :=
 HD.rec (motive_1 := fun x d _ => ∀ {u}, RelV x u -> d.canLay0 = true -> ∃ as, Reads s.heap u d as) (motive_2 := fun x d _ => ∀ {u}, Vals x u -> PyData.canLayAll0 d = true -> ∃ as, ReadsAll s.heap u d as)
  (fun {u} r _ => by cases (show u = Value.none from r); exact ⟨_, .none⟩) (fun b {u} r _ => by cases (show u = Value.bool b from r); exact ⟨_, .bool b⟩) (fun i {u} r _ => by obtain ⟨t, rfl⟩ := r; exact ⟨_, .int i t⟩) (fun i {u} r _ => by obtain ⟨t, rfl⟩ := r; exact ⟨_, .str i t⟩)
  (fun {_ _ _} hq _ i {_} r c => rd_lst I hq r fun rv => i rv (by rw [PyData.canLay0] at c; exact c)) (fun {_ _ _} hq _ i {_} r c => rd_tup I hq r fun rv => i rv (by rw [PyData.canLay0] at c; exact c)) (fun {_ _ _} _ _ _ _ {_} _ c => by rw [PyData.canLay0] at c; cases c) (fun {_ _ _ _} _ _ _ _ {_} _ c => by rw [PyData.canLay0] at c; cases c) (fun {_ _ _ _ _ _ _} _ _ _ _ _ {_} _ c => by rw [PyData.canLay0] at c; cases c) (fun {_ _ _} _ _ {_} _ c => by rw [PyData.canLay0] at c; cases c)
  (fun {_} r _ => by cases r; exact ⟨_, .nil⟩) (fun {_ _ _ _} _ _ i j {_} r c => by
   rw [PyData.canLayAll0, Bool.and_eq_true] at c
   cases r with
   | cons r rs =>
     obtain ⟨as, q⟩ := i r c.1
     obtain ⟨bs, qs⟩ := j rs c.2
     exact ⟨_, .cons q qs⟩) h
end
theorem HDs.len {K : PySem.W.Frag} {H : Hp} : ∀ {xs : List V} {ds : List D}, HDs K H xs ds -> xs.length = ds.length := by
 intro xs ds
 induction ds generalizing xs with
 | nil => intro h; cases h; rfl
 | cons d ds ih =>
  intro h
  cases h with
  | cons _ t => rw [List.length_cons, List.length_cons, ih t]
theorem HDs.get {K : PySem.W.Frag} {H : Hp} : ∀ {xs : List V} {ds : List D} {i : Nat} {d : D}, HDs K H xs ds -> ds[i]? = some d -> ∃ x, xs[i]? = some x /\ HD K H x d
 | _, _, _, _, .nil, e => by simp at e
 | _, _, 0, _, .cons r _, e => by simp at e; subst e; exact ⟨_, rfl, r⟩
 | _, _, i + 1, y, .cons _ t, e => by
   obtain ⟨u, h1, h2⟩ := HDs.get (i := i) (d := y) t (by simpa using e)
   exact ⟨u, by simpa using h1, h2⟩
theorem HDs.app {K : PySem.W.Frag} {H : Hp} : ∀ {xs xs' : List V} {ds ds' : List D}, HDs K H xs ds -> HDs K H xs' ds' -> HDs K H (xs ++ xs') (ds ++ ds') := by
 intro xs xs' ds ds' h s
 induction ds generalizing xs with
 | nil => cases h; exact s
 | cons d ds ih =>
  cases h with
  | cons r t => exact .cons r (ih t)
theorem HDs.takeD {K : PySem.W.Frag} {H : Hp} : ∀ {xs : List V} {ds : List D} (n : Nat), HDs K H xs ds -> HDs K H (xs.take n) (ds.take n)
 | _, _, 0, _ => .nil
 | _, _, _ + 1, .nil => .nil
 | _, _, n + 1, .cons r t => .cons r (HDs.takeD n t)
theorem HDs.dropD {K : PySem.W.Frag} {H : Hp} : ∀ {xs : List V} {ds : List D} (n : Nat), HDs K H xs ds -> HDs K H (xs.drop n) (ds.drop n)
 | _, _, 0, r => r
 | _, _, _ + 1, .nil => .nil
 | _, _, n + 1, .cons _ t => HDs.dropD n t
theorem HDs.rev {K : PySem.W.Frag} {H : Hp} : ∀ {xs : List V} {ds : List D}, HDs K H xs ds -> HDs K H xs.reverse ds.reverse := by
 intro xs ds
 induction ds generalizing xs with
 | nil => intro h; cases h; exact .nil
 | cons d ds ih =>
  intro h
  cases h with
  | cons r t => rw [List.reverse_cons, List.reverse_cons]; exact (ih t).app (.cons r .nil)
theorem HDs.ints {K : PySem.W.Frag} {H : Hp} : ∀ ns : List Int, HDs K H (ns.map V.int) (ns.map PyData.int)
 | [] => .nil
 | n :: ns => .cons (.int n) (HDs.ints ns)
theorem tup_off {H : Hp} {A : List Addr} {a : Addr} {xs : List V} (h : TupT H a xs) (al : Ls A H) : TupT (wo H A) a xs := by
 rcases h with h | ⟨ob, h⟩
 ·refine .inl ?_
  rw [wo_out fun z => ?_]; exact h
  obtain ⟨o, e, q⟩ := al.1 a z
  rw [h] at e; cases e; exact q
 ·refine .inr ⟨ob, ?_⟩
  rw [wo_out fun z => ?_]; exact h
  obtain ⟨o, e, q⟩ := al.1 a z
  rw [h] at e; cases e; exact q
mutual
noncomputable def noL : D -> Bool
 | .list _ => false
 | .dict _ => false
 | .tuple ds => noLs ds
 | _ => true
noncomputable def noLs : List D -> Bool
 | [] => true
 | d :: ds => noL d && noLs ds
end
theorem HD.off {K : PySem.W.Frag} {H : Hp} {A : List Addr} (al : Ls A H) {x : V} {d : D} (h : HD K H x d) : noL d = true -> HD K (wo H A) x d :=
 HD.rec (motive_1 := fun x d _ => noL d = true -> HD K (wo H A) x d) (motive_2 := fun x d _ => noLs d = true -> HDs K (wo H A) x d) (fun _ => .non) (fun b _ => .bl b) (fun b _ => .int b) (fun b _ => .str b) (fun _ _ _ f => by rw [noL] at f; cases f) (fun hq _ i f => .tup (tup_off hq al) (i (by rw [noL] at f; exact f))) (fun _ _ _ _ f => by rw [noL] at f; cases f) (fun _ _ _ _ f => by rw [noL] at f; cases f) (fun _ _ _ _ _ f => by rw [noL] at f; cases f) (fun _ _ f => by rw [noL] at f; cases f) (fun _ => .nil) (fun _ _ i j f => by rw [noLs, Bool.and_eq_true] at f; exact .cons (i f.1) (j f.2)) h
inductive OwO (K : PySem.W.Frag) (H : Hp) : HO -> D -> Prop
 | lst {ys : List V} {ds : List D} : HDs K H ys ds -> OwO K H (.lst ys) (.list ds)
 | dct {kvs : List (List Key × V)} {kds : List (D × D)} : kds.map (·.1) = kvs.map (fun p => PyData.tuple (p.1.map keyD)) -> HDs K H (kvs.map (·.2)) (kds.map (·.2)) -> OwO K H (.dT kvs) (.dict kds)
theorem OwO.same {K : PySem.W.Frag} {H H' : Hp} {o : HO} {d : D} (s : Same H H') (h : OwO K H o d) : OwO K H' o d := by
 cases h with
 | lst q => exact .lst (q.same s)
 | dct k q => exact .dct k (q.same s)
theorem OwO.own {K : PySem.W.Frag} {H : Hp} {o : HO} {d : D} (h : OwO K H o d) : OwnO o := by cases h <;> trivial
theorem OwO.hd {K : PySem.W.Frag} {H : Hp} {o : HO} {d : D} {l : Addr} (h : OwO K H o d) (e : H l = some o) : HD K H (.ref l) d := by
 cases h with
 | lst q => exact .lst (.of e) q
 | dct k q => exact .dct e k q
noncomputable def fnD : List (D × D) -> Bool
 | (.list [], _) :: _ => true
 | _ => false
noncomputable def ShD (K : PySem.W.Frag) (A : List Addr) (H : Hp) (v : V) (d : D) : Prop := HD K (wo H A) v d \/ ∃ l o, v = .ref l /\ H l = some o /\ OwO K (wo H A) o d
section
variable {K : PySem.W.Frag} {H H' : Hp} {A A' : List Addr} {v : V} {d : D}
theorem ShD.of (h : HD K (wo H A) v d) : ShD K A H v d := .inl h
theorem ShD.same (s : Same H H') (h : ShD K A H v d) : ShD K A H' v d := by
 rcases h with h | ⟨l, o, rfl, e, q⟩
 ·exact .inl (h.same (wo_mono s))
 ·exact .inr ⟨l, o, rfl, s _ _ e, q.same (wo_mono s)⟩
theorem ShD.isD (h : ShD K A H v d) : HD K H v d := by
 rcases h with h | ⟨l, o, rfl, e, q⟩
 ·exact h.same wo_same
 ·exact (q.same wo_same).hd e
theorem ShD.list {ds : List D} (h : ShD K A H v (.list ds)) : ∃ l ys, v = .ref l /\ LsD K H l ys /\ HDs K (wo H A) ys ds := by
 rcases h with h | ⟨l, o, rfl, e, q⟩
 ·cases h with
  | lst hq h => exact ⟨_, _, rfl, hq.same wo_same, h⟩
 ·cases q with
  | lst q => exact ⟨l, _, rfl, .of e, q⟩
theorem ShD.tupH {ds : List D} (h : ShD K A H v (.tuple ds)) : ∃ l ys, v = .ref l /\ TupT H l ys /\ HDs K (wo H A) ys ds := by
 rcases h with h | ⟨l, o, rfl, e, q⟩
 ·cases h with
  | tup hq h => exact ⟨_, _, rfl, wo_same.tupT hq, h⟩
 ·cases q
theorem ShD.tuple {ds : List D} (h : ShD K A H v (.tuple ds)) : ∃ l ys, v = .ref l /\ SqT K H l ys /\ HDs K (wo H A) ys ds :=
 let ⟨l, ys, a, b, c⟩ := h.tupH; ⟨l, ys, a, .inl b, c⟩
theorem ShD.dict {kds : List (D × D)} (h : ShD K A H v (.dict kds)) (hf : fnD kds = false) : ∃ l kvs, v = .ref l /\ H l = some (.dT kvs) /\ kds.map (·.1) = kvs.map (fun p => PyData.tuple (p.1.map keyD)) /\ HDs K (wo H A) (kvs.map (·.2)) (kds.map (·.2)) := by
 rcases h with h | ⟨l, o, rfl, e, q⟩
 ·cases h with
  | dct hq k h => exact ⟨_, _, rfl, wo_same _ _ hq, k, h⟩
  | exc _ _ => cases hf
  | fz hq k h => cases hf
  | fn _ hq k h => cases hf
 ·cases q with
  | dct k q => exact ⟨l, _, rfl, e, k, q⟩
theorem ShD.fz {ds : List D} (h : ShD K A H v (.tuple ds)) : HD K (wo H A) v (.tuple ds) := by
 rcases h with h | ⟨l, o, rfl, e, q⟩
 ·exact h
 ·cases q
theorem ShD.int {i : Int} (h : ShD K A H v (.int i)) : v = .int i := by
 rcases h with h | ⟨l, o, rfl, e, q⟩
 ·cases h; rfl
 ·cases q
theorem ShD.bool {b : Bool} (h : ShD K A H v (.bool b)) : v = .bl b := by
 rcases h with h | ⟨l, o, rfl, e, q⟩
 ·cases h; rfl
 ·cases q
theorem ShD.str {b : Str} (h : ShD K A H v (.str b)) : v = .str b := by
 rcases h with h | ⟨l, o, rfl, e, q⟩
 ·cases h; rfl
 ·cases q
theorem ShD.non (h : ShD K A H v .none) : v = .non := by
 rcases h with h | ⟨l, o, rfl, e, q⟩
 ·cases h; rfl
 ·cases q
end
structure Rel (K : PySem.W.Frag) (O : List Nat) (U A0 : List Addr) (σ : St) (δ : DS) (H : Hp) : Prop where
 len : σ.length = δ.length
 fz : ∀ (i : Nat) d, i ∉ O -> δ[i]? = some (some d) -> ∃ v, σ[i]? = some (some v) /\ HD K (wo H (U ++ A0)) v d
 ow : ∀ (i : Nat) d, i ∈ O -> δ[i]? = some (some d) -> ∃ l o, σ[i]? = some (some (.ref l)) /\ l ∈ U /\ H l = some o /\ OwO K (wo H (U ++ A0)) o d
 inj : ∀ (i j : Nat) d e l, i ∈ O -> j ∈ O -> i ≠ j -> δ[i]? = some (some d) -> δ[j]? = some (some e) -> σ[i]? = some (some (.ref l)) -> σ[j]? = some (some (.ref l)) -> False
 al : Ls (U ++ A0) H
section
variable {K : PySem.W.Frag} {O : List Nat} {U A0 : List Addr} {σ : St} {δ : DS} {H H' : Hp}
theorem Rel.same (R : Rel K O U A0 σ δ H) (s : Same H H') : Rel K O U A0 σ δ H' where
 len := R.len
 fz := fun i d hi e => let ⟨v, a, b⟩ := R.fz i d hi e; ⟨v, a, b.same (wo_mono s)⟩
 ow := fun i d hi e => let ⟨l, o, a, c, f, g⟩ := R.ow i d hi e; ⟨l, o, a, c, s _ _ f, g.same (wo_mono s)⟩
 inj := R.inj
 al := R.al.same s
theorem Rel.owL (R : Rel K O U A0 σ δ H) (i : Nat) (d : D) (hi : i ∈ O) (e : δ[i]? = some (some d)) : (∃ l ys ds, σ[i]? = some (some (.ref l)) /\ d = .list ds /\ l ∈ U /\ H l = some (.lst ys) /\ HDs K (wo H (U ++ A0)) ys ds) \/ ∃ kds, d = .dict kds := by
 obtain ⟨l, o, a, c, f, g⟩ := R.ow i d hi e
 cases g with
 | lst q => exact .inl ⟨l, _, _, a, rfl, c, f, q⟩
 | dct k q => exact .inr ⟨_, rfl⟩
theorem Rel.at (R : Rel K O U A0 σ δ H) {i : Nat} {d : D} (e : δ[i]? = some (some d)) : ∃ v, σ[i]? = some (some v) /\ ShD K (U ++ A0) H v d := by
 by_cases hi : i ∈ O
 ·obtain ⟨l, o, a, c, f, g⟩ := R.ow i d hi e
  exact ⟨_, a, .inr ⟨l, o, rfl, f, g⟩⟩
 ·obtain ⟨v, a, b⟩ := R.fz i d hi e
  exact ⟨v, a, .inl b⟩
theorem Rel.set (R : Rel K O U A0 σ δ H) {i : Nat} {v : V} {d : D} (hi : i ∉ O) (h : HD K (wo H (U ++ A0)) v d) : Rel K O U A0 (σ.set i (some v)) (δ.set i (some d)) H where
 len := by rw [List.length_set, List.length_set]; exact R.len
 fz := fun j e hj q => by
  by_cases hij : i = j
  ·subst hij
   have hl : i < δ.length := by have := (List.getElem?_eq_some_iff.mp q).1; rwa [List.length_set] at this
   rw [List.getElem?_set_self hl] at q
   cases q
   exact ⟨v, List.getElem?_set_self (by rw [R.len]; exact hl), h⟩
  ·rw [List.getElem?_set_ne hij] at q ⊢
   exact R.fz j e hj q
 ow := fun j e hj q => by
  have hij : i ≠ j := fun z => hi (z ▸ hj)
  rw [List.getElem?_set_ne hij] at q ⊢
  exact R.ow j e hj q
 inj := fun j k d e l hj hk hjk q1 q2 e1 e2 => by
  have hij : i ≠ j := fun z => hi (z ▸ hj)
  have hik : i ≠ k := fun z => hi (z ▸ hk)
  rw [List.getElem?_set_ne hij] at q1 e1
  rw [List.getElem?_set_ne hik] at q2 e2
  exact R.inj j k d e l hj hk hjk q1 q2 e1 e2
 al := R.al
theorem Rel.setO (R : Rel K O U A0 σ δ H) (s : Same H H') {i : Nat} {r : Addr} {ob : HO} {db : D} (hr : H r = none) (h : H' r = some ob) (q : OwO K (wo H' (r :: (U ++ A0))) ob db) (hi : i ∈ O) :
  Rel K O (r :: U) A0 (σ.set i (some (.ref r))) (δ.set i (some db)) H' where
 len := by rw [List.length_set, List.length_set]; exact R.len
 fz := fun j e hj q => by
  have hij : i ≠ j := fun z => hj (z ▸ hi)
  rw [List.getElem?_set_ne hij] at q ⊢
  obtain ⟨v, a, b⟩ := R.fz j e hj q
  exact ⟨v, a, b.same (wo_more s hr)⟩
 ow := fun j e hj w => by
  by_cases hij : i = j
  ·subst hij
   have hl : i < δ.length := by have := (List.getElem?_eq_some_iff.mp w).1; rwa [List.length_set] at this
   rw [List.getElem?_set_self hl] at w
   cases w
   exact ⟨r, ob, List.getElem?_set_self (by rw [R.len]; exact hl), by simp, h, q⟩
  ·rw [List.getElem?_set_ne hij] at w ⊢
   obtain ⟨l, o, a, c, f, g⟩ := R.ow j e hj w
   exact ⟨l, o, a, by simp [c], s _ _ f, g.same (wo_more s hr)⟩
 inj := fun j k d e l hj hk hjk q1 q2 e1 e2 => by
  have len1 : ∀ {x : D}, (δ.set i (some db))[i]? = some (some x) -> i < δ.length := fun w => by have := (List.getElem?_eq_some_iff.mp w).1; rwa [List.length_set] at this
  by_cases hij : i = j
  ·subst hij
   have hik : i ≠ k := hjk
   rw [List.getElem?_set_self (by rw [R.len]; exact len1 q1)] at e1
   rw [List.getElem?_set_ne hik] at q2 e2
   cases e1
   obtain ⟨l, o, a, c, f, g⟩ := R.ow k e hk q2
   rw [a] at e2; cases e2
   rw [hr] at f; cases f
  ·by_cases hik : i = k
   ·subst hik
    rw [List.getElem?_set_self (by rw [R.len]; exact len1 q2)] at e2
    rw [List.getElem?_set_ne hij] at q1 e1
    cases e2
    obtain ⟨l, o, a, c, f, g⟩ := R.ow j d hj q1
    rw [a] at e1; cases e1
    rw [hr] at f; cases f
   ·rw [List.getElem?_set_ne hij] at q1 e1
    rw [List.getElem?_set_ne hik] at q2 e2
    exact R.inj j k d e l hj hk hjk q1 q2 e1 e2
 al := ⟨fun a ha => by
  rcases List.mem_append.mp ha with z | z
  ·rcases List.mem_cons.mp z with z | z
   ·subst z; exact ⟨ob, h, q.own⟩
   ·exact (R.al.same s).1 a (List.mem_append_left _ z)
  ·exact (R.al.same s).1 a (List.mem_append_right _ z), (R.al.same s).2⟩
theorem Rel.setN (R : Rel K O U A0 σ δ H) (s : Same H H') {i : Nat} {r : Addr} {ys : List V} {ds : List D} (hr : H r = none) (h : H' r = some (.lst ys)) (q : HDs K (wo H' (r :: (U ++ A0))) ys ds) (hi : i ∈ O) :
  Rel K O (r :: U) A0 (σ.set i (some (.ref r))) (δ.set i (some (.list ds))) H' := R.setO s hr h (.lst q) hi
theorem Rel.putO (R : Rel K O U A0 σ δ H) {i : Nat} {l : Addr} {ob : HO} {db : D} (hi : i ∈ O) (hl : σ[i]? = some (some (.ref l))) (hU : l ∈ U) (q : OwO K (wo H (U ++ A0)) ob db) (hd : ∃ d, δ[i]? = some (some d)) :
  Rel K O U A0 σ (δ.set i (some db)) (upd H l ob) := by
 have hw : wo (upd H l ob) (U ++ A0) = wo H (U ++ A0) := wo_own (List.mem_append_left _ hU)
 obtain ⟨d0, hd⟩ := hd
 have hlen : i < δ.length := (List.getElem?_eq_some_iff.mp hd).1
 exact {
  len := by rw [List.length_set]; exact R.len
  fz := fun j e hj w => by
   have hij : i ≠ j := fun z => hj (z ▸ hi)
   rw [List.getElem?_set_ne hij] at w
   rw [hw]
   exact R.fz j e hj w
  ow := fun j e hj w => by
   rw [hw]
   by_cases hij : i = j
   ·subst hij
    rw [List.getElem?_set_self hlen] at w
    cases w
    exact ⟨l, ob, hl, hU, upd_same, q⟩
   ·rw [List.getElem?_set_ne hij] at w
    obtain ⟨l', o', a, c, f, g⟩ := R.ow j e hj w
    have hne : l' ≠ l := by
     intro z; subst z
     exact R.inj i j d0 e _ hi hj hij hd w hl a
    exact ⟨l', o', a, c, by rw [upd_ne hne]; exact f, g⟩
  inj := fun j k d e l hj hk hjk q1 q2 e1 e2 => by
   have f : ∀ {m : Nat} {x : D}, (δ.set i (some db))[m]? = some (some x) -> ∃ y, δ[m]? = some (some y) := by
    intro m x w
    by_cases him : i = m
    ·subst him; exact ⟨d0, hd⟩
    ·rw [List.getElem?_set_ne him] at w; exact ⟨x, w⟩
   obtain ⟨y1, w1⟩ := f q1
   obtain ⟨y2, w2⟩ := f q2
   exact R.inj j k y1 y2 l hj hk hjk w1 w2 e1 e2
  al := ⟨fun a ha => by
   by_cases e : a = l
   ·subst e; exact ⟨ob, upd_same, q.own⟩
   ·rw [upd_ne e]; exact R.al.1 a ha, fun p xs m =>
    let ⟨_, e, w⟩ := R.al.1 l (List.mem_append_left _ hU)
    (R.al.2.1 p xs m).ne ((R.al.2.1 p xs m).apart e w), fun p y q m => by
    obtain ⟨_, e, w⟩ := R.al.1 l (List.mem_append_left _ hU)
    rw [upd_ne fun z => ?_]
    ·exact R.al.2.2 p y q m
    ·have t := R.al.2.2 p y q m
     rw [z, e] at t; cases t; exact w⟩ }
theorem Rel.put (R : Rel K O U A0 σ δ H) {i : Nat} {l : Addr} {ys : List V} {ds : List D} (hi : i ∈ O) (hl : σ[i]? = some (some (.ref l))) (hU : l ∈ U) (q : HDs K (wo H (U ++ A0)) ys ds) (hd : ∃ d, δ[i]? = some (some d)) :
  Rel K O U A0 σ (δ.set i (some (.list ds))) (upd H l (.lst ys)) := R.putO hi hl hU (.lst q) hd
end
structure Fx (H0 : Hp) (A0 U : List Addr) (H : Hp) : Prop where
 same : Same H0 H
 new : ∀ a ∈ U, H0 a = none
 old : Ls A0 H0
section
variable {K : PySem.W.Frag} {O : List Nat} {U U' A0 : List Addr} {σ : St} {δ : DS} {H0 H H' : Hp}
theorem Fx.grow (F : Fx H0 A0 U H) (s : Same H H') : Fx H0 A0 U H' := ⟨F.same.trans s, F.new, F.old⟩
theorem Fx.more (F : Fx H0 A0 U H) (s : Same H H') {r : Addr} (hr : H r = none) : Fx H0 A0 (r :: U) H' := ⟨F.same.trans s, fun a ha => by
 rcases List.mem_cons.mp ha with z | z
 ·subst z; exact F.same.free hr
 ·exact F.new a z, F.old⟩
theorem Fx.put (F : Fx H0 A0 U H) {l : Addr} (hl : l ∈ U) (o : HO) : Fx H0 A0 U (upd H l o) := ⟨F.same.upd (F.new l hl) o, F.new, F.old⟩
theorem Fx.out (F : Fx H0 A0 U H) {l : Addr} (hl : l ∈ U) : l ∉ A0 := fun z => by
 obtain ⟨ys, e, _⟩ := F.old.1 l z
 rw [F.new l hl] at e; cases e
theorem Fx.here (F : Fx H0 A0 U H) : Fx (wo H U) A0 U H := ⟨wo_same, fun _ h => wo_in h, fun a ha => by
 obtain ⟨ys, e, q⟩ := F.old.1 a ha
 refine ⟨ys, ?_, q⟩
 rw [wo_out fun z => ?_]
 ·exact F.same _ _ e
 ·exact F.out z ha, fun p xs m => (F.same.tupT (F.old.2.1 p xs m)).wo fun z => (by
 rcases F.old.2.1 p xs m with t | ⟨ob, t⟩ <;> rw [F.new p z] at t <;> cases t), fun p y q m => by
 rw [wo_out fun z => ?_]
 ·exact F.same _ _ (F.old.2.2 p y q m)
 ·have t := F.old.2.2 p y q m
  rw [F.new p z] at t; cases t⟩
theorem Fx.trans (F : Fx H0 A0 U H) (G : Fx (wo H U) A0 U' H') : Fx H0 A0 U' H' := by
 have k : ∀ a o, H0 a = some o -> wo H U a = some o := fun a o e => by
  rw [wo_out fun z => ?_]
  ·exact F.same _ _ e
  ·rw [F.new a z] at e; cases e
 refine ⟨fun a o e => G.same _ _ (k a o e), fun a ha => ?_, F.old⟩
 cases e : H0 a with
 | none => rfl
 | some o =>
   have := G.new a ha
   rw [k a o e] at this; cases this
theorem Fx.keeps (G : Fx (wo H U) A0 U' H') : Same (wo H (U ++ A0)) (wo H' (U' ++ A0)) := fun b o e => by
 obtain ⟨h1, h2⟩ := wo_some e
 simp only [List.mem_append, not_or] at h1
 have h3 : wo H U b = some o := by rw [wo_out h1.1]; exact h2
 rw [wo_out]
 ·exact G.same _ _ h3
 ·simp only [List.mem_append, not_or]
  refine ⟨fun z => ?_, h1.2⟩
  rw [G.new b z] at h3; cases h3
end
noncomputable def tE (K : PySem.W.Frag) (O : List Nat) (g : DS -> Option D) : TE := fun σ H Q => ∃ U A0 δ d, Rel K O U A0 σ δ H /\ g δ = some d /\ ∀ v H', Same H H' -> HD K (wo H' (U ++ A0)) v d -> Q v H'
theorem tE.e {K : PySem.W.Frag} {O : List Nat} {g : DS -> Option D}  {σ : _} {H : _} {Q : _} {GG : Prop} (hh : tE K O g σ H Q) (kk : ∀ U A0 δ d, (Rel K O U A0 σ δ H) -> (g δ = some d) -> (∀ v H', Same H H' -> HD K (wo H' (U ++ A0)) v d -> Q v H') -> GG) : GG := by obtain ⟨U, A0, δ, d, x0, x1, x2⟩ := hh; exact kk U A0 δ d x0 x1 x2
noncomputable def tSh (K : PySem.W.Frag) (O : List Nat) (g : DS -> Option D) : TE := fun σ H Q => ∃ U A0 δ d, Rel K O U A0 σ δ H /\ g δ = some d /\ ∀ v H', Same H H' -> ShD K (U ++ A0) H' v d -> Q v H'
theorem tSh.e {K : PySem.W.Frag} {O : List Nat} {g : DS -> Option D}  {σ : _} {H : _} {Q : _} {GG : Prop} (hh : tSh K O g σ H Q) (kk : ∀ U A0 δ d, (Rel K O U A0 σ δ H) -> (g δ = some d) -> (∀ v H', Same H H' -> ShD K (U ++ A0) H' v d -> Q v H') -> GG) : GG := by obtain ⟨U, A0, δ, d, x0, x1, x2⟩ := hh; exact kk U A0 δ d x0 x1 x2
noncomputable def tN (K : PySem.W.Frag) (O : List Nat) (g : DS -> Option (List D)) : TE := fun σ H Q => ∃ U A0 δ ds, Rel K O U A0 σ δ H /\ g δ = some ds /\
 ∀ r ys H', Same H H' -> H r = none -> H' r = some (.lst ys) -> HDs K (wo H' (r :: (U ++ A0))) ys ds -> Q (.ref r) H'
theorem tN.e {K : PySem.W.Frag} {O : List Nat} {g : DS -> Option (List D)}  {σ : _} {H : _} {Q : _} {GG : Prop} (hh : tN K O g σ H Q) (kk : ∀ U A0 δ ds, (Rel K O U A0 σ δ H) -> (g δ = some ds) -> (∀ r ys H', Same H H' -> H r = none -> H' r = some (.lst ys) -> HDs K (wo H' (r :: (U ++ A0))) ys ds -> Q (.ref r) H') -> GG) : GG := by obtain ⟨U, A0, δ, ds, x0, x1, x2⟩ := hh; exact kk U A0 δ ds x0 x1 x2
noncomputable def tT (K : PySem.W.Frag) (O : List Nat) (g : DS -> Option Bool) : TT := fun σ H Q => ∃ U A0 δ b, Rel K O U A0 σ δ H /\ g δ = some b /\ ∀ H', Same H H' -> Q b H'
theorem tT.e {K : PySem.W.Frag} {O : List Nat} {g : DS -> Option Bool}  {σ : _} {H : _} {Q : _} {GG : Prop} (hh : tT K O g σ H Q) (kk : ∀ U A0 δ b, (Rel K O U A0 σ δ H) -> (g δ = some b) -> (∀ H', Same H H' -> Q b H') -> GG) : GG := by obtain ⟨U, A0, δ, b, x0, x1, x2⟩ := hh; exact kk U A0 δ b x0 x1 x2
noncomputable def tAs (K : PySem.W.Frag) (O : List Nat) (g : DS -> Option (List D)) : TA := fun σ H Q => ∃ U A0 δ ds, Rel K O U A0 σ δ H /\ g δ = some ds /\ ∀ vs H', Same H H' -> HDs K (wo H' (U ++ A0)) vs ds -> Q vs H'
theorem tAs.e {K : PySem.W.Frag} {O : List Nat} {g : DS -> Option (List D)}  {σ : _} {H : _} {Q : _} {GG : Prop} (hh : tAs K O g σ H Q) (kk : ∀ U A0 δ ds, (Rel K O U A0 σ δ H) -> (g δ = some ds) -> (∀ vs H', Same H H' -> HDs K (wo H' (U ++ A0)) vs ds -> Q vs H') -> GG) : GG := by obtain ⟨U, A0, δ, ds, x0, x1, x2⟩ := hh; exact kk U A0 δ ds x0 x1 x2
noncomputable def ShDs (K : PySem.W.Frag) (A : List Addr) (H : Hp) : List V -> List D -> Prop := Paired (ShD K A H)
noncomputable def tAsh (K : PySem.W.Frag) (O : List Nat) (g : DS -> Option (List D)) : TA := fun σ H Q => ∃ U A0 δ ds, Rel K O U A0 σ δ H /\ g δ = some ds /\ ∀ vs H', Same H H' -> ShDs K (U ++ A0) H' vs ds -> Q vs H'
theorem tAsh.e {K : PySem.W.Frag} {O : List Nat} {g : DS -> Option (List D)}  {σ : _} {H : _} {Q : _} {GG : Prop} (hh : tAsh K O g σ H Q) (kk : ∀ U A0 δ ds, (Rel K O U A0 σ δ H) -> (g δ = some ds) -> (∀ vs H', Same H H' -> ShDs K (U ++ A0) H' vs ds -> Q vs H') -> GG) : GG := by obtain ⟨U, A0, δ, ds, x0, x1, x2⟩ := hh; exact kk U A0 δ ds x0 x1 x2
inductive Res where
 | nx (δ : DS) | rt (d : D) | bk (δ : DS) | ct (δ : DS)
noncomputable def RetR (K : PySem.W.Frag) (fr : Bool) (H0 : Hp) (A0 : List Addr) (v : V) (d : D) (H' : Hp) : Prop :=
 if fr = true then ∃ r o, v = .ref r /\ Same H0 H' /\ H0 r = none /\ H' r = some o /\ OwO K (wo H' (r :: A0)) o d else Same H0 H' /\ HD K (wo H' A0) v d
noncomputable def rxD (c : Str) : D := .dict [(.none, .str c)]
noncomputable abbrev Fr := Bool × (Str -> Hp -> Prop)
noncomputable def Post (K : PySem.W.Frag) (O : List Nat) (fr : Fr) (H0 : Hp) (A0 : List Addr) (E : Ends) : Res -> Prop
 | .nx δ => ∀ U σ H, Rel K O U A0 σ δ H -> Fx H0 A0 U H -> E.nx σ H
 | .bk δ => ∀ U σ H, Rel K O U A0 σ δ H -> Fx H0 A0 U H -> E.bk σ H
 | .ct δ => ∀ U σ H, Rel K O U A0 σ δ H -> Fx H0 A0 U H -> E.ct σ H
 | .rt d => (∀ v H, RetR K fr.1 H0 A0 v d H -> E.rt v H) /\ ∀ c H, d = rxD c -> Same H0 H -> fr.2 c H
noncomputable def tS (K : PySem.W.Frag) (O : List Nat) (fr : Fr) (g : DS -> Option Res) : TS := fun E σ H => ∃ H0 U A0 δ r, Rel K O U A0 σ δ H /\ Fx H0 A0 U H /\ g δ = some r /\ Post K O fr H0 A0 E r
theorem tS.e {K : PySem.W.Frag} {O : List Nat} {fr : Fr} {g : DS -> Option Res}  {E : _} {σ : _} {H : _} {GG : Prop} (hh : tS K O fr g E σ H) (kk : ∀ H0 U A0 δ r, (Rel K O U A0 σ δ H) -> (Fx H0 A0 U H) -> (g δ = some r) -> (Post K O fr H0 A0 E r) -> GG) : GG := by obtain ⟨H0, U, A0, δ, r, x0, x1, x2, x3⟩ := hh; exact kk H0 U A0 δ r x0 x1 x2 x3
noncomputable def Walks (K : PySem.W.Frag) (A : List Addr) (H1 : Hp) (J : It) (ds : List D) : Prop := ∀ (A' : List Addr) (i : Nat) (H : Hp), Same (wo H1 A) (wo H A') -> Ls A' H ->
 (∀ d, ds[i]? = some d -> J.go i H /\ ∀ x H2, J.yld i H x H2 -> Same H H2 /\ HD K (wo H2 A') x d) /\ (i = ds.length -> J.stop i H)
noncomputable def tI (K : PySem.W.Frag) (O : List Nat) (g : DS -> Option (List D)) : TI := fun σ H R => ∃ U A0 δ ds, Rel K O U A0 σ δ H /\ g δ = some ds /\ ∀ J H1, Same H H1 -> Walks K (U ++ A0) H1 J ds -> R J H1
theorem tI.e {K : PySem.W.Frag} {O : List Nat} {g : DS -> Option (List D)}  {σ : _} {H : _} {R : _} {GG : Prop} (hh : tI K O g σ H R) (kk : ∀ U A0 δ ds, (Rel K O U A0 σ δ H) -> (g δ = some ds) -> (∀ J H1, Same H H1 -> Walks K (U ++ A0) H1 J ds -> R J H1) -> GG) : GG := by obtain ⟨U, A0, δ, ds, x0, x1, x2⟩ := hh; exact kk U A0 δ ds x0 x1 x2
noncomputable def tG (K : PySem.W.Frag) (O : List Nat) (g : D -> DS -> Option DS) : TG := fun v σ H Q => ∃ U A0 δ d δ', Rel K O U A0 σ δ H /\ HD K (wo H (U ++ A0)) v d /\ g d δ = some δ' /\ ∀ σ', Rel K O U A0 σ' δ' H -> Q σ' H
theorem tG.e {K : PySem.W.Frag} {O : List Nat} {g : D -> DS -> Option DS}  {v : _} {σ : _} {H : _} {Q : _} {GG : Prop} (hh : tG K O g v σ H Q) (kk : ∀ U A0 δ d δ', (Rel K O U A0 σ δ H) -> (HD K (wo H (U ++ A0)) v d) -> (g d δ = some δ') -> (∀ σ', Rel K O U A0 σ' δ' H -> Q σ' H) -> GG) : GG := by obtain ⟨U, A0, δ, d, δ', x0, x1, x2, x3⟩ := hh; exact kk U A0 δ d δ' x0 x1 x2 x3
end L2
namespace L2
open PySem PySem.Spec PyProof.Rows
section
variable {X : Cx}
theorem PE.mono {e : Expr} {t t' : TE} (h : PE X e t) (m : ∀ σ H Q, t' σ H Q -> t σ H Q) : PE X e t' := fun pins s σ H Q I q => h pins s σ H Q I (m σ H Q q)
theorem PT.mono {e : Expr} {t t' : TT} (h : PT X e t) (m : ∀ σ H Q, t' σ H Q -> t σ H Q) : PT X e t' := fun pins s σ H Q I q => h pins s σ H Q I (m σ H Q q)
theorem PW.mono {e : Expr} {t t' : TT} (h : PW X e t) (m : ∀ σ H Q, t' σ H Q -> t σ H Q) : PW X e t' := fun w pins s σ H Q I q => h w pins s σ H Q I (m σ H Q q)
theorem PA.mono {e : List Expr} {t t' : TA} (h : PA X e t) (m : ∀ σ H Q, t' σ H Q -> t σ H Q) : PA X e t' := fun pos pins s σ H Q I q => h pos pins s σ H Q I (m σ H Q q)
theorem PS.mono {e : Stmt} {t t' : TS} (h : PS X e t) (m : ∀ E σ H, t' E σ H -> t E σ H) : PS X e t' := fun pins s σ H E I q => h pins s σ H E I (m E σ H q)
theorem PSs.mono {e : List Stmt} {t t' : TS} (h : PSs X e t) (m : ∀ E σ H, t' E σ H -> t E σ H) : PSs X e t' := fun pins s σ H E I q => h pins s σ H E I (m E σ H q)
theorem PI.mono {tg e : Expr} {t t' : TI} (h : PI X tg e t) (m : ∀ σ H R, t' σ H R -> t σ H R) : PI X tg e t' := fun pins s σ H R I q => h pins s σ H R I (m σ H R q)
theorem PG.mono {e : Expr} {t t' : TG} (h : PG X e t) (m : ∀ v σ H Q, t' v σ H Q -> t v σ H Q) : PG X e t' := fun pins s σ H v u Q I r q => h pins s σ H v u Q I r (m v σ H Q q)
theorem PO.mono {e : Option Expr} {t t' : TO} (h : PO X e t) (m : ∀ σ H Q, t' σ H Q -> t σ H Q) : PO X e t' := fun pins s σ H Q I q => h pins s σ H Q I (m σ H Q q)
end
noncomputable def gVar (i : Nat) : DS -> Option D := fun δ => (δ[i]?).join
noncomputable def gC (d : D) : DS -> Option D := fun _ => some d
noncomputable def gLst (g : DS -> Option (List D)) : DS -> Option D := fun δ => (g δ).map .list
theorem join_some {α : Type} {o : Option (Option α)} {d : α} (h : o.join = some d) : o = some (some d) := by
 cases o with
 | none => cases h
 | some p => cases p with
   | none => cases h
   | some q => cases h; rfl
section
variable {X : Cx} {O : List Nat} {e : Expr} {g : DS -> Option D}
theorem pd_var {i : Nat} (h : PE X e (tVar i)) (hi : i ∉ O := by decide) : PE X e (tE X.K O (gVar i)) := h.mono fun σ H Q hh => hh.e fun U A0 δ d R ed q => by
 obtain ⟨v, hv, hd⟩ := R.fz i d hi (join_some ed)
 exact ⟨v, hv, q v H (Same.refl H) hd⟩
theorem pd_own {i : Nat} (h : PE X e (tVar i)) : PE X e (tSh X.K O (gVar i)) := h.mono fun σ H Q hh => hh.e fun U A0 δ d R ed q => by
 obtain ⟨v, hv, hd⟩ := R.at (join_some ed)
 exact ⟨v, hv, q v H (Same.refl H) hd⟩
theorem pd_c {v : V} {d : D} (h : PE X e (tC v)) (hd : ∀ H, HD X.K H v d) : PE X e (tE X.K O (gC d)) := h.mono fun σ H Q hh => hh.e fun U A0 δ d' R ed q => by
 cases ed
 exact q v H (Same.refl H) (hd _)
theorem pd_int {i : Int} (h : PE X e (tC (.int i))) : PE X e (tE X.K O (gC (.int i))) := pd_c h fun _ => .int i
theorem pd_bl {i : Bool} (h : PE X e (tC (.bl i))) : PE X e (tE X.K O (gC (.bool i))) := pd_c h fun _ => .bl i
theorem pd_str {i : Str} (h : PE X e (tC (.str i))) : PE X e (tE X.K O (gC (.str i))) := pd_c h fun _ => .str i
theorem PE.sh (h : PE X e (tE X.K O g)) : PE X e (tSh X.K O g) := h.mono fun σ H Q hh => hh.e fun U A0 δ d R ed q => ⟨U, A0, δ, d, R, ed, fun v H' s z => q v H' s (.inl z)⟩
theorem tN_tE {K : PySem.W.Frag} {g : DS -> Option (List D)} {σ : St} {H : Hp} {Q : VK} : tE K O (gLst g) σ H Q -> tN K O g σ H Q := by
 rintro ⟨U, A0, δ, d, R, ed, q⟩
 unfold gLst at ed
 cases eg : g δ with
 | none => rw [eg] at ed; cases ed
 | some ds =>
   rw [eg] at ed; cases ed
   refine ⟨U, A0, δ, ds, R, eg, fun r ys H' s hr h1 h2 => q _ H' s ?_⟩
   have hn := R.al.free hr
   exact .lst (.of (by rw [wo_out hn]; exact h1)) (h2.same (wo_sub fun a ha => List.mem_cons_of_mem _ ha))
theorem PE.nE {g : DS -> Option (List D)} (h : PE X e (tN X.K O g)) : PE X e (tE X.K O (gLst g)) := h.mono fun _ _ _ => tN_tE
end
noncomputable def g2 (f : D -> D -> Option D) (a b : DS -> Option D) : DS -> Option D := fun δ => (a δ).bind fun x => (b δ).bind fun y => f x y
noncomputable def g2N (f : D -> D -> Option (List D)) (a b : DS -> Option D) : DS -> Option (List D) := fun δ => (a δ).bind fun x => (b δ).bind fun y => f x y
noncomputable def Imp2 (K : PySem.W.Frag) (r : R2) (f : D -> D -> Option D) : Prop := ∀ (A : List Addr) (H : Hp) (x y : V) (dx dy d : D) (Q : VK), Ls A H -> ShD K A H x dx -> ShD K A H y dy -> f dx dy = some d -> (∀ v H', Same H H' -> HD K (wo H' A) v d -> Q v H') -> r x y H Q
noncomputable def Imp2N (K : PySem.W.Frag) (r : R2) (f : D -> D -> Option (List D)) : Prop := ∀ (A : List Addr) (H : Hp) (x y : V) (dx dy : D) (ds : List D) (Q : VK), Ls A H -> ShD K A H x dx -> ShD K A H y dy -> f dx dy = some ds ->
 (∀ p ys, H p = none -> HDs K (wo H A) ys ds -> Q (.ref p) (upd H p (.lst ys))) -> r x y H Q
theorem bind2 {α β γ : Type} {a : Option α} {b : Option β} {f : α -> β -> Option γ} {d : γ} (h : (a.bind fun x => b.bind fun y => f x y) = some d) : ∃ x y, a = some x /\ b = some y /\ f x y = some d := by
 cases a with
 | none => cases h
 | some x => cases b with
   | none => cases h
   | some y => exact ⟨x, y, rfl, rfl, h⟩
theorem bind1 {α β : Type} {a : Option α} {f : α -> Option β} {d : β} (h : a.bind f = some d) : ∃ x, a = some x /\ f x = some d := by
 cases a with
 | none => cases h
 | some x => exact ⟨x, rfl, h⟩
section
variable {X : Cx} {O : List Nat} {a b : Expr} {ga gb : DS -> Option D} {pos : Pos} {r : R2}
theorem tOp_E {K : PySem.W.Frag} {f : D -> D -> Option D} (imp : Imp2 K r f) {σ : St} {H : Hp} {Q : VK} : tE K O (g2 f ga gb) σ H Q -> tOp r (tSh K O ga) (tSh K O gb) σ H Q := by
 rintro ⟨U, A0, δ, d, R, ed, q⟩
 obtain ⟨x, y, ex, ey, ef⟩ := bind2 ed
 exact ⟨U, A0, δ, x, R, ex, fun v1 H1 s1 h1 => ⟨U, A0, δ, y, R.same s1, ey, fun v2 H2 s2 h2 => imp _ H2 v1 v2 x y d Q (R.same (s1.trans s2)).al (h1.same s2) h2 ef fun v H' s h => q v H' ((s1.trans s2).trans s) h⟩⟩
theorem new_q {K : PySem.W.Frag} {A : List Addr} {H H2 : Hp} {ds : List D} {Q : VK} (s : Same H H2) (q : ∀ r ys H', Same H H' -> H r = none -> H' r = some (.lst ys) -> HDs K (wo H' (r :: A)) ys ds -> Q (.ref r) H') : ∀ p ys, H2 p = none -> HDs K (wo H2 A) ys ds -> Q (.ref p) (upd H2 p (.lst ys)) :=
 fun p ys hp h => q p ys _ (s.trans (same_new hp _)) (s.free hp) upd_same (by rw [wo_cons_new hp]; exact h)
theorem tOp_N {K : PySem.W.Frag} {f : D -> D -> Option (List D)} (imp : Imp2N K r f) {σ : St} {H : Hp} {Q : VK} : tN K O (g2N f ga gb) σ H Q -> tOp r (tSh K O ga) (tSh K O gb) σ H Q := by
 rintro ⟨U, A0, δ, d, R, ed, q⟩
 obtain ⟨x, y, ex, ey, ef⟩ := bind2 ed
 exact ⟨U, A0, δ, x, R, ex, fun v1 H1 s1 h1 => ⟨U, A0, δ, y, R.same s1, ey, fun v2 H2 s2 h2 => imp _ H2 v1 v2 x y d Q (R.same (s1.trans s2)).al (h1.same s2) h2 ef (new_q (s1.trans s2) q)⟩⟩
theorem pd_op {op : Operator} {f : D -> D -> Option D} (ho : OpR X (binaryOp op) r) (imp : Imp2 X.K r f) (ha : PE X a (tSh X.K O ga)) (hb : PE X b (tSh X.K O gb)) : PE X (.BinOp a op b pos) (tE X.K O (g2 f ga gb)) := (pe_op ho ha hb).mono fun _ _ _ => tOp_E imp
theorem pd_opN {op : Operator} {f : D -> D -> Option (List D)} (ho : OpR X (binaryOp op) r) (imp : Imp2N X.K r f) (ha : PE X a (tSh X.K O ga)) (hb : PE X b (tSh X.K O gb)) : PE X (.BinOp a op b pos) (tN X.K O (g2N f ga gb)) := (pe_op ho ha hb).mono fun _ _ _ => tOp_N imp
theorem pd_cmp {op : CmpOp} {f : D -> D -> Option D} (ho : OpR X (compareOp op) r) (imp : Imp2 X.K r f) (ha : PE X a (tSh X.K O ga)) (hb : PE X b (tSh X.K O gb)) (hm : behindInMarks op b = false) : PE X (.Compare a [op] [b] pos) (tE X.K O (g2 f ga gb)) := (pe_cmpR ho ha hb hm).mono fun _ _ _ => tOp_E imp
noncomputable def gB (g : DS -> Option D) : DS -> Option Bool := fun δ => (g δ).bind fun | .bool b => some b | _ => none
theorem tT_of {K : PySem.W.Frag} {g : DS -> Option D} {te : TE} (m : ∀ σ H Q, tE K O g σ H Q -> te σ H Q) {σ : St} {H : Hp} {Q : Bool -> Hp -> Prop} : tT K O (gB g) σ H Q -> te σ H fun x H' => ∃ k, x = .bl k /\ Q k H' := by
 rintro ⟨U, A0, δ, b, R, ed, q⟩
 obtain ⟨d, e1, e2⟩ := bind1 ed
 cases d with
 | bool c =>
   cases e2
   exact m σ H _ ⟨U, A0, δ, _, R, e1, fun v H' s h => by cases h; exact ⟨_, rfl, q H' s⟩⟩
 | _ => cases e2
theorem pd_tcmp {op : CmpOp} {f : D -> D -> Option D} (ho : OpR X (compareOp op) r) (imp : Imp2 X.K r f) (ha : PE X a (tSh X.K O ga)) (hb : PE X b (tSh X.K O gb)) (hm : behindInMarks op b = false) : PT X (.Compare a [op] [b] pos) (tT X.K O (gB (g2 f ga gb))) := (pt_cmpR ho ha hb hm).mono fun _ _ _ => tT_of fun _ _ _ => tOp_E imp
end
noncomputable def dI (g : Int -> Int -> D) : D -> D -> Option D
 | .int a, .int b => some (g a b)
 | _, _ => none
open Classical in
noncomputable def dIc (C : Int -> Int -> Prop) (g : Int -> Int -> D) : D -> D -> Option D
 | .int a, .int b => if C a b then some (g a b) else none
 | _, _ => none
open Classical in
theorem dIc_ok {C : Int -> Int -> Prop} {g : Int -> Int -> D} {a b : Int} (h : C a b) : dIc C g (.int a) (.int b) = some (g a b) := by
 show (if C a b then some (g a b) else none) = _
 rw [if_pos h]
theorem dI_ok {g : Int -> Int -> D} {a b : Int} : dI g (.int a) (.int b) = some (g a b) := rfl
theorem imp_I {K : PySem.W.Frag} {g : Int -> Int -> Int} : Imp2 K (rI0 fun i j => .int (g i j)) (dI fun i j => .int (g i j)) := by
 intro A H x y dx dy d Q al hx hy e q
 unfold dI at e
 split at e
 ·cases e
  exact ⟨_, _, hx.int, hy.int, q _ H (Same.refl H) (.int _)⟩
 ·cases e
theorem imp_Ib {K : PySem.W.Frag} {g : Int -> Int -> Bool} : Imp2 K (rI0 fun i j => .bl (g i j)) (dI fun i j => .bool (g i j)) := by
 intro A H x y dx dy d Q al hx hy e q
 unfold dI at e
 split at e
 ·cases e
  exact ⟨_, _, hx.int, hy.int, q _ H (Same.refl H) (.bl _)⟩
 ·cases e
set_option tactic.hygienic true in
theorem imp_Ic {K : PySem.W.Frag} {C : Int -> Int -> Prop} {g : Int -> Int -> Int} : Imp2 K (rI C fun i j => .int (g i j)) (dIc C fun i j => .int (g i j)) := by
 intro A H x y dx dy d Q al hx hy e q
 unfold dIc at e
 split at e
 ·split at e
  ·rename_i c
   cases e
   exact ⟨_, _, hx.int, hy.int, c, q _ H (Same.refl H) (.int _)⟩
  ·cases e
 ·cases e
noncomputable abbrev dSub : D -> D -> Option D := dI fun i j => .int (i - j)
noncomputable abbrev dMulI : D -> D -> Option D := dIc IntMulOk fun i j => .int (i * j)
noncomputable abbrev dDiv : D -> D -> Option D := dIc CDivS fun i j => .int (i.fdiv j)
noncomputable abbrev dMod : D -> D -> Option D := dIc (fun _ j => j ≠ 0) fun i j => .int (i.fmod j)
noncomputable abbrev dPow : D -> D -> Option D := dIc CPow fun i j => .int (i ^ j.toNat)
noncomputable abbrev dLt : D -> D -> Option D := dI fun i j => .bool (decide (i < j))
noncomputable abbrev dGt : D -> D -> Option D := dI fun i j => .bool (decide (j < i))
noncomputable abbrev dGe : D -> D -> Option D := dI fun i j => .bool (decide (j <= i))
noncomputable def dEq : D -> D -> Option D
 | .int a, .int b => some (.bool (decide (a = b)))
 | a, b => if (SeqAt.shaped a && SeqAt.shaped b) = true then some (.bool (PyData.eqv a b)) else none
noncomputable def dNe : D -> D -> Option D := fun a b => (dEq a b).bind fun | .bool c => some (.bool (!c)) | _ => none
set_option tactic.hygienic true in
theorem dEq_eqv {a b d : D} (h : dEq a b = some d) : SeqAt.shaped a = true /\ SeqAt.shaped b = true /\ d = .bool (PyData.eqv a b) := by
 unfold dEq at h
 split at h
 ·cases h
  refine ⟨by simp [SeqAt.shaped, PyData.canLay0, PyData.depth], by simp [SeqAt.shaped, PyData.canLay0, PyData.depth], ?_⟩
  rw [PyData.eqv]; rfl
 ·split at h
  ·rename_i c
   rw [Bool.and_eq_true] at c
   cases h
   exact ⟨c.1, c.2, rfl⟩
  ·cases h
noncomputable def rEqH (K : PySem.W.Frag) (neg : Bool) : R2 := fun x y H Q => ∃ d e, HD K H x d /\ HD K H y e /\ SeqAt.shaped d = true /\ SeqAt.shaped e = true /\ Q (.bl (if neg = true then !PyData.eqv d e else PyData.eqv d e)) H
section
variable {X : Cx}
theorem op_eqH {k : Nat} (hr : Room k X.A) : OpR X (compareOp .Eq) (rEqH X.K false) := by
 intro pins s σ H x y v u Q I rx ry h
 obtain ⟨d, e, h1, h2, s1, s2, q⟩ := h
 obtain ⟨as, r1⟩ := h1.reads I rx (shaped_lay s1)
 obtain ⟨bs, r2⟩ := h2.reads I ry (shaped_lay s2)
 exact eq_dataH r1 r2 s1 s2 hr.units ⟨.bl _, H, I, rfl, q⟩
theorem op_neH {k : Nat} (hr : Room k X.A) : OpR X (compareOp .NotEq) (rEqH X.K true) := by
 intro pins s σ H x y v u Q I rx ry h
 obtain ⟨d, e, h1, h2, s1, s2, q⟩ := h
 obtain ⟨as, r1⟩ := h1.reads I rx (shaped_lay s1)
 obtain ⟨bs, r2⟩ := h2.reads I ry (shaped_lay s2)
 exact ne_dataH r1 r2 s1 s2 hr.units ⟨.bl _, H, I, rfl, q⟩
end
theorem imp_eq {K : PySem.W.Frag} : Imp2 K (rEqH K false) dEq := by
 intro A H x y dx dy d Q al hx hy e q
 obtain ⟨a, b, rfl⟩ := dEq_eqv e
 exact ⟨dx, dy, hx.isD, hy.isD, a, b, q _ H (Same.refl H) (.bl _)⟩
theorem imp_ne {K : PySem.W.Frag} : Imp2 K (rEqH K true) dNe := by
 intro A H x y dx dy d Q al hx hy e q
 obtain ⟨c, e1, e2⟩ := bind1 e
 obtain ⟨a, b, rfl⟩ := dEq_eqv e1
 cases e2
 exact ⟨dx, dy, hx.isD, hy.isD, a, b, q _ H (Same.refl H) (.bl _)⟩
noncomputable def rCatR (K : PySem.W.Frag) : R2 := fun x y H Q => ∃ l b xs zs, x = .ref l /\ y = .ref b /\ LsD K H l xs /\ LsD K H b zs /\ xs.length + zs.length <= sizeLine /\ ∀ p, H p = none -> Q (.ref p) (upd H p (.lst (xs ++ zs)))
theorem op_catR {X : Cx} : OpR X (binaryOp .Add) (rCatR X.K) := by
 intro pins s σ H x y v u Q I rx ry h
 obtain ⟨l, b, xs, zs, rfl, rfl, hH, hB, hz, q⟩ := h
 cases rx
 cases ry
 obtain ⟨z, its, n, r, e⟩ := I.lsd hH
 obtain ⟨z2, its2, n2, r2, e2⟩ := I.lsd hB
 have hl := r.length
 have hl2 := r2.length
 refine PySem.P.add_list e e2 ?_ (by rw [List.size_toArray, List.size_toArray]; lia)
 have ea : its.toArray ++ its2.toArray = (its ++ its2).toArray := by simp
 rw [ea]
 exact ⟨.ref _, _, I.lnew (t' := s.toks) (r.append r2) (by rw [List.length_append]; lia), rfl, q _ I.fresh⟩
noncomputable def dCat : D -> D -> Option (List D)
 | .list a, .list b => if a.length + b.length <= 100000 then some (a ++ b) else none
 | _, _ => none
set_option tactic.hygienic true in
theorem imp_cat {K : PySem.W.Frag} : Imp2N K (rCatR K) dCat := by
 intro A H x y dx dy ds Q al hx hy e q
 unfold dCat at e
 split at e
 ·split at e
  ·rename_i hz
   cases e
   obtain ⟨l, xs, rfl, h1, h2⟩ := hx.list
   obtain ⟨b, zs, rfl, h3, h4⟩ := hy.list
   have := h2.len
   have := h4.len
   exact ⟨l, b, xs, zs, rfl, rfl, h1, h3, small (by lia), fun p hp => q p _ hp (h2.app h4)⟩
  ·cases e
 ·cases e
noncomputable def dAdd : D -> D -> Option D
 | .int a, .int b => some (.int (a + b))
 | .str a, .str b => if a.length + b.length <= 100000 then some (.str (a ++ b)) else none
 | .list a, .list b => if a.length + b.length <= 100000 then some (.list (a ++ b)) else none
 | .tuple a, .tuple b => if a.length + b.length <= 100000 /\ a ≠ [] then some (.tuple (a ++ b)) else none
 | _, _ => none
noncomputable def rAddU (K : PySem.W.Frag) : R2 := fun x y H Q => rI0 (fun i j => .int (i + j)) x y H Q \/ (∃ i j, x = .str i /\ y = .str j /\ i.length + j.length <= sizeLine /\ Q (.str (i ++ j)) H) \/ rCatR K x y H Q \/ rCatT K x y H Q
theorem op_addU {X : Cx} : OpR X (binaryOp .Add) (rAddU X.K) := op_add.or (op_add_str.or (op_catR.or op_catT))
theorem HD.newL {K : PySem.W.Frag} {A : List Addr} {H : Hp} {p : Addr} {ys : List V} {ds : List D} (al : Ls A H) (hp : H p = none) (h : HDs K (wo H A) ys ds) : HD K (wo (upd H p (.lst ys)) A) (.ref p) (.list ds) := by
 rw [wo_new (al.free hp)]
 have hn : wo H A p = none := by
  by_cases z : p ∈ A
  ·exact wo_in z
  ·rw [wo_out z]; exact hp
 exact .lst (.of upd_same) (h.same (same_new hn _))
theorem HD.newT {K : PySem.W.Frag} {A : List Addr} {H : Hp} {p : Addr} {ys : List V} {ds : List D} (al : Ls A H) (hp : H p = none) (h : HDs K (wo H A) ys ds) : HD K (wo (upd H p (.tup ys)) A) (.ref p) (.tuple ds) := by
 rw [wo_new (al.free hp)]
 have hn : wo H A p = none := by
  by_cases z : p ∈ A
  ·exact wo_in z
  ·rw [wo_out z]; exact hp
 exact .tup (.inl upd_same) (h.same (same_new hn _))
set_option tactic.hygienic true in
theorem imp_add {K : PySem.W.Frag} : Imp2 K (rAddU K) dAdd := by
 intro A H x y dx dy d Q al hx hy e q
 unfold dAdd at e
 split at e
 ·cases e
  exact .inl ⟨_, _, hx.int, hy.int, q _ H (Same.refl H) (.int _)⟩
 ·split at e
  ·cases e
   exact .inr (.inl ⟨_, _, hx.str, hy.str, small (by assumption), q _ H (Same.refl H) (.str _)⟩)
  ·cases e
 ·split at e
  ·rename_i hz
   cases e
   refine .inr (.inr (.inl (imp_cat (K := K) A H x y _ _ _ Q al hx hy (show (if _ then some _ else none) = some _ from if_pos hz) fun p ys hp h => ?_)))
   exact q _ _ (same_new hp _) (HD.newL al hp h)
  ·cases e
 ·split at e
  ·rename_i hz
   cases e
   have hx' := hx.fz
   obtain ⟨a, xs, rfl, h1, h2⟩ := hx.tuple
   obtain ⟨b, zs, rfl, h3, h4⟩ := hy.tuple
   have l2 := h2.len
   have l4 := h4.len
   refine .inr (.inr (.inr ⟨a, b, xs, zs, rfl, rfl, h1, h3, ?_, small (by lia), fun z => ?_, fun z p hp => ?_⟩))
   ·intro z; subst z; cases h2; exact hz.2 rfl
   ·subst z; cases h4
    rw [List.append_nil] at q
    exact q _ H (Same.refl H) hx'
   ·exact q _ _ (same_new hp _) (HD.newT al hp (h2.app h4))
  ·cases e
 ·cases e
noncomputable def dIx : D -> D -> Option D
 | .list ds, .int i => atI ds i
 | .tuple ds, .int i => atI ds i
 | .str z, .int i => if z.length <= 100000 then (atI z.cps.toList i).map fun c => .str ⟨#[c]⟩ else none
 | _, _ => none
theorem HDs.atI {K : PySem.W.Frag} {H : Hp} {xs : List V} {ds : List D} {i : Int} {d : D} (h : HDs K H xs ds) (e : atI ds i = some d) : ∃ v, L2.atI xs i = some v /\ HD K H v d := by
 unfold L2.atI at e ⊢
 obtain ⟨j, e1, e2⟩ := bind1 e
 rw [h.len, e1]
 obtain ⟨x, hx, q⟩ := h.get e2
 exact ⟨x, hx, q⟩
set_option tactic.hygienic true in
theorem imp_ix {K : PySem.W.Frag} : Imp2 K (rIx K) dIx := by
 intro A H x y dx dy d Q al hx hy e q
 unfold dIx at e
 split at e
 ·obtain ⟨l, xs, rfl, h1, h2⟩ := hx.list
  obtain ⟨v, e1, e2⟩ := h2.atI e
  exact .inl ⟨l, xs, _, v, rfl, hy.int, h1.sq, e1, q _ H (Same.refl H) e2⟩
 ·obtain ⟨l, xs, rfl, h1, h2⟩ := hx.tuple
  obtain ⟨v, e1, e2⟩ := h2.atI e
  exact .inr (.inl ⟨l, xs, _, v, rfl, hy.int, h1, e1, q _ H (Same.refl H) e2⟩)
 ·split at e
  ·rename_i z i hz
   cases ec : L2.atI z.cps.toList i with
   | none => rw [ec] at e; cases e
   | some c =>
     rw [ec] at e; cases e
     exact .inr (.inr ⟨z, i, c, hx.str, hy.int, small hz, ec, q _ H (Same.refl H) (.str _)⟩)
  ·cases e
 ·cases e
section
variable {X : Cx} {O : List Nat} {a b : Expr} {ga gb : DS -> Option D} {pos : Pos}
theorem pd_ix (ha : PE X a (tSh X.K O ga)) (hb : PE X b (tSh X.K O gb)) (hs : PlainIx b := by exact fun _ _ => rfl) : PE X (.Subscript a b pos) (tE X.K O (g2 dIx ga gb)) := (pe_ix ix_seq ha hb hs).mono fun _ _ _ => tOp_E imp_ix
end
noncomputable def g1 (f : D -> Option D) (a : DS -> Option D) : DS -> Option D := fun δ => (a δ).bind f
noncomputable def dNeg : D -> Option D
 | .int a => some (.int (-a))
 | _ => none
noncomputable def dNot : D -> Option D
 | .bool a => some (.bool (!a))
 | _ => none
section
variable {X : Cx} {O : List Nat} {a b c : Expr} {ga gb : DS -> Option D} {pos : Pos}
theorem pd_neg (ha : PE X a (tSh X.K O ga)) : PE X (.UnaryOp .USub a pos) (tE X.K O (g1 dNeg ga)) := (pe_un un_neg ha).mono fun σ H Q hh => hh.e fun U A0 δ d R ed q => by
 obtain ⟨x, e1, e2⟩ := bind1 ed
 cases x with
 | int i => cases e2; exact ⟨U, A0, δ, _, R, e1, fun v H' s h => ⟨i, h.int, q _ H' s (.int _)⟩⟩
 | _ => cases e2
theorem pd_not (ha : PE X a (tSh X.K O ga)) : PE X (.UnaryOp .Not a pos) (tE X.K O (g1 dNot ga)) := (pe_not ha).mono fun σ H Q hh => hh.e fun U A0 δ d R ed q => by
 obtain ⟨x, e1, e2⟩ := bind1 ed
 cases x with
 | bool i => cases e2; exact ⟨U, A0, δ, _, R, e1, fun v H' s h => ⟨i, h.bool, q _ H' s (.bl _)⟩⟩
 | _ => cases e2
noncomputable def gAndV (a b : DS -> Option D) : DS -> Option D := fun δ => (gB a δ).bind fun x => if x = true then b δ else some (.bool false)
theorem gB_some {g : DS -> Option D} {δ : DS} {b : Bool} (h : gB g δ = some b) : g δ = some (.bool b) := by
 obtain ⟨d, e1, e2⟩ := bind1 h
 cases d with
 | bool c => cases e2; exact e1
 | _ => cases e2
theorem pd_and {rest : List Expr} (ha : PE X a (tE X.K O ga)) (hb : PE X (.BoolOp .And (b :: rest) pos) (tE X.K O gb)) : PE X (.BoolOp .And (a :: b :: rest) pos) (tE X.K O (gAndV ga gb)) := (pe_and ha hb).mono fun σ H Q hh => hh.e fun U A0 δ d R ed q => by
 obtain ⟨x, e1, e2⟩ := bind1 ed
 refine ⟨U, A0, δ, _, R, gB_some e1, fun v H' s h => ?_⟩
 cases h
 refine ⟨x, rfl, ?_⟩
 cases x with
 | true => rw [if_pos rfl] at e2 ⊢; exact ⟨U, A0, δ, d, R.same s, e2, fun v H2 s2 h2 => q v H2 (s.trans s2) h2⟩
 | false => rw [if_neg Bool.false_ne_true] at e2 ⊢; cases e2; exact q _ H' s (.bl _)
noncomputable def gAnd (a b : DS -> Option Bool) : DS -> Option Bool := fun δ => (a δ).bind fun x => if x = true then b δ else some false
noncomputable def gOr (a b : DS -> Option Bool) : DS -> Option Bool := fun δ => (a δ).bind fun x => if x = true then some true else b δ
noncomputable def gNot (a : DS -> Option Bool) : DS -> Option Bool := fun δ => (a δ).map fun x => !x
variable {ta tb : DS -> Option Bool} {rest : List Expr}
theorem pd_tand (ha : PT X a (tT X.K O ta)) (hb : PW X (.BoolOp .And (b :: rest) pos) (tT X.K O tb)) : PW X (.BoolOp .And (a :: b :: rest) pos) (tT X.K O (gAnd ta tb)) := (pw_and ha hb).mono fun σ H Q hh => hh.e fun U A0 δ d R ed q => by
 obtain ⟨x, e1, e2⟩ := bind1 ed
 refine ⟨U, A0, δ, _, R, e1, fun H' s => ?_⟩
 cases x with
 | true => rw [if_pos rfl] at e2 ⊢; exact ⟨U, A0, δ, d, R.same s, e2, fun H2 s2 => q H2 (s.trans s2)⟩
 | false => rw [if_neg Bool.false_ne_true] at e2 ⊢; cases e2; exact q H' s
theorem pd_tor (ha : PT X a (tT X.K O ta)) (hb : PW X (.BoolOp .Or (b :: rest) pos) (tT X.K O tb)) : PW X (.BoolOp .Or (a :: b :: rest) pos) (tT X.K O (gOr ta tb)) := (pw_or ha hb).mono fun σ H Q hh => hh.e fun U A0 δ d R ed q => by
 obtain ⟨x, e1, e2⟩ := bind1 ed
 refine ⟨U, A0, δ, _, R, e1, fun H' s => ?_⟩
 cases x with
 | true => rw [if_pos rfl] at e2 ⊢; cases e2; exact q H' s
 | false => rw [if_neg Bool.false_ne_true] at e2 ⊢; exact ⟨U, A0, δ, d, R.same s, e2, fun H2 s2 => q H2 (s.trans s2)⟩
theorem pd_tnot (ha : PT X a (tT X.K O ta)) : PT X (.UnaryOp .Not a pos) (tT X.K O (gNot ta)) := (pt_not ha).mono fun σ H Q hh => hh.e fun U A0 δ d R ed q => by
 unfold gNot at ed
 cases e : ta δ with
 | none => rw [e] at ed; cases ed
 | some x => rw [e] at ed; cases ed; exact ⟨U, A0, δ, x, R, e, fun H' s => q H' s⟩
noncomputable def dTru : D -> Option Bool
 | .none => some false
 | .bool b => some b
 | .int i => some (i != 0)
 | .str x => if x.length <= 100000 then some ((x.length : Int) != 0) else none
 | .list l => some (!l.isEmpty)
 | .tuple l => some (!l.isEmpty)
 | _ => none
noncomputable def gTru (g : DS -> Option D) : DS -> Option Bool := fun δ => (g δ).bind dTru
theorem isEmpty_HD {K : PySem.W.Frag} {H : Hp} {xs : List V} {ds : List D} (h : HDs K H xs ds) : xs.isEmpty = ds.isEmpty := by cases h <;> rfl
theorem pd_truth (ha : PE X a (tSh X.K O ga)) (he : ∀ whole, isTrue a X.env whole = (do let v <- whole; standAt a.pos; holding [v] (truthy v)) := by exact fun _ => rfl) : PT X a (tT X.K O (gTru ga)) := (pt_truth ha he).mono fun σ H Q hh => hh.e fun U A0 δ k R ed q => by
 obtain ⟨d, e1, e2⟩ := bind1 ed
 refine ⟨U, A0, δ, d, R, e1, fun v H' s h => ⟨k, ?_, q H' s⟩⟩
 cases d with
 | none => cases e2; rw [h.non]; exact rfl
 | bool b => cases e2; rw [h.bool]; exact rfl
 | int i => cases e2; rw [h.int]; exact rfl
 | str x =>
   rw [h.str]
   have e3 : (if x.length <= 100000 then some ((x.length : Int) != 0) else none) = some k := e2
   split at e3
   ·cases e3; exact ⟨small (by assumption), rfl⟩
   ·cases e3
 | list l =>
   cases e2
   obtain ⟨p, xs, rfl, h1, h2⟩ := h.list
   exact .inl ⟨xs, h1.sq, by rw [isEmpty_HD h2]⟩
 | tuple l =>
   cases e2
   obtain ⟨p, xs, rfl, h1, h2⟩ := h.tuple
   exact .inr (.inl ⟨xs, h1, by rw [isEmpty_HD h2]⟩)
 | dict _ => cases e2
end
noncomputable def gNilA : DS -> Option (List D) := fun _ => some []
noncomputable def gConsA (a : DS -> Option D) (r : DS -> Option (List D)) : DS -> Option (List D) := fun δ => (a δ).bind fun x => (r δ).bind fun xs => some (x :: xs)
noncomputable def gTupD (r : DS -> Option (List D)) : DS -> Option D := fun δ => (r δ).bind fun xs => if xs.length <= 100000 then some (.tuple xs) else none
noncomputable def gLstN (r : DS -> Option (List D)) : DS -> Option (List D) := fun δ => (r δ).bind fun xs => if xs.length <= 100000 then some xs else none
section
variable {X : Cx} {O : List Nat} {e : Expr} {es : List Expr} {ga : DS -> Option D} {gr : DS -> Option (List D)} {pos : Pos}
theorem pd_anil : PA X [] (tAs X.K O gNilA) := pa_nil.mono fun σ H Q hh => hh.e fun U A0 δ d R ed q => by cases ed; exact q [] H (Same.refl H) .nil
theorem pd_acons (ha : PE X e (tE X.K O ga)) (hr : PA X es (tAs X.K O gr)) (hs : starEach (e :: es) X.env = (false, eval e X.env) :: starEach es X.env := by rfl) : PA X (e :: es) (tAs X.K O (gConsA ga gr)) := (pa_cons ha hr hs).mono fun σ H Q hh => hh.e fun U A0 δ ds R ed q => by
 obtain ⟨x, xs, e1, e2, e3⟩ := bind2 ed
 cases e3
 exact ⟨U, A0, δ, x, R, e1, fun v H1 s1 h1 => ⟨U, A0, δ, xs, R.same s1, e2, fun vs H2 s2 h2 => q _ H2 (s1.trans s2) (.cons (h1.same (wo_mono s2)) h2)⟩⟩
theorem pd_shnil : PA X [] (tAsh X.K O gNilA) := pa_nil.mono fun σ H Q hh => hh.e fun U A0 δ d R ed q => by cases ed; exact q [] H (Same.refl H) .nil
theorem pd_shcons (ha : PE X e (tSh X.K O ga)) (hr : PA X es (tAsh X.K O gr)) (hs : starEach (e :: es) X.env = (false, eval e X.env) :: starEach es X.env := by rfl) : PA X (e :: es) (tAsh X.K O (gConsA ga gr)) := (pa_cons ha hr hs).mono fun σ H Q hh => hh.e fun U A0 δ ds R ed q => by
 obtain ⟨x, xs, e1, e2, e3⟩ := bind2 ed
 cases e3
 exact ⟨U, A0, δ, x, R, e1, fun v H1 s1 h1 => ⟨U, A0, δ, xs, R.same s1, e2, fun vs H2 s2 h2 => q _ H2 (s1.trans s2) (.cons (h1.same s2) h2)⟩⟩
set_option tactic.hygienic true in
theorem pd_tup {x1} (h : PA X es (tAs X.K O gr)) : PE X (.Tuple es x1 pos) (tE X.K O (gTupD gr)) := (pe_tup h).mono fun σ H Q hh => hh.e fun U A0 δ d R ed q => by
 obtain ⟨xs, e1, e2⟩ := bind1 ed
 split at e2
 ·rename_i hz
  cases e2
  refine ⟨U, A0, δ, xs, R, e1, fun vs H' s h => ⟨by have := h.len; exact small (by lia), fun p hp => q _ _ (s.trans (same_new hp _)) (HD.newT (R.same s).al hp h)⟩⟩
 ·cases e2
set_option tactic.hygienic true in
theorem pd_lst (h : PA X es (tAs X.K O gr)) : PE X (.List es pos) (tN X.K O (gLstN gr)) := (pe_lst h).mono fun σ H Q hh => hh.e fun U A0 δ d R ed q => by
 obtain ⟨xs, e1, e2⟩ := bind1 ed
 split at e2
 ·rename_i hz
  cases e2
  refine ⟨U, A0, δ, d, R, e1, fun vs H' s h => ⟨by have := h.len; exact small (by lia), fun p hp => new_q s q p vs hp h⟩⟩
 ·cases e2
end
noncomputable def spD (K : PySem.W.Frag) (n : Nat) (G : List D -> Option D) : Sp := fun vs H Q _ => vs.length = n /\ ∃ A ds d, Ls A H /\ HDs K (wo H A) vs ds /\ G ds = some d /\ ∀ v H', Same H H' -> HD K (wo H' A) v d -> Q v H'
noncomputable def spN (K : PySem.W.Frag) (n : Nat) (G : List D -> Option (List D)) : Sp := fun vs H Q _ => vs.length = n /\ ∃ A ds d, Ls A H /\ HDs K (wo H A) vs ds /\ G ds = some d /\
 ∀ r ys H', Same H H' -> H r = none -> H' r = some (.lst ys) -> HDs K (wo H' (r :: A)) ys d -> Q (.ref r) H'
noncomputable def gCall (G : List D -> Option D) (n : Nat) (g : DS -> Option (List D)) : DS -> Option D := fun δ => (g δ).bind fun ds => if ds.length = n then G ds else none
noncomputable def gCallN (G : List D -> Option (List D)) (n : Nat) (g : DS -> Option (List D)) : DS -> Option (List D) := fun δ => (g δ).bind fun ds => if ds.length = n then G ds else none
noncomputable def gCallSh (G : List D -> Option D) (n : Nat) (g : DS -> Option (List D)) : DS -> Option D := fun δ => (g δ).bind fun ds => if ds.length = n then (G ds).bind fun d => if noL d = true then some d else none else none
section
variable {X : Cx} {O : List Nat} {e : Expr} {es : List Expr} {gr : DS -> Option (List D)} {pos p : Pos} {n k kk : Nat} {x : Str} {ps : List Str}
theorem ShDs.isDs {K : PySem.W.Frag} {A : List Addr} {H : Hp} : ∀ {vs : List V} {ds : List D}, ShDs K A H vs ds -> HDs K H vs ds := by
 intro vs ds h
 induction h with
 | nil => exact .nil
 | cons h t ih => exact .cons h.isD ih
set_option tactic.hygienic true in
theorem pd_call {G : List D -> Option D} (F : Dn X.prog X.w X.K X.mg X.base k x ps (spD X.K n G)) (hr : Room kk X.A) (hk : k <= kk) (ha : PA X (e :: es) (tAs X.K O gr)) (hg : Gl X x := by rfl)
  (hdb : (x == ("__debug__" : Str)) = false := by decide) (he : starEach (e :: es) X.env = (false, eval e X.env) :: starEach es X.env := by rfl) (hpl : (backTo pos (starEach es X.env)).any (·.1) = false := by rfl) :
  PE X (.Call (.Name x p) (e :: es) [] pos) (tE X.K O (gCall G n gr)) := (pe_fn F hr hk ha hg hdb he hpl).mono fun σ H Q hh => hh.e fun U A0 δ d R ed q => by
 obtain ⟨ds, e1, e2⟩ := bind1 ed
 split at e2
 ·rename_i hn
  refine ⟨U, A0, δ, ds, R, e1, fun vs H' s h => ?_⟩
  show spD X.K n G (vs ++ []) H' Q E0
  rw [List.append_nil]
  exact ⟨by rw [h.len]; exact hn, U ++ A0, ds, d, (R.same s).al, h, e2, fun v H2 s2 h2 => q v H2 (s.trans s2) h2⟩
 ·cases e2
set_option tactic.hygienic true in
theorem pd_callN {G : List D -> Option (List D)} (F : Dn X.prog X.w X.K X.mg X.base k x ps (spN X.K n G)) (hr : Room kk X.A) (hk : k <= kk) (ha : PA X (e :: es) (tAs X.K O gr)) (hg : Gl X x := by rfl)
  (hdb : (x == ("__debug__" : Str)) = false := by decide) (he : starEach (e :: es) X.env = (false, eval e X.env) :: starEach es X.env := by rfl) (hpl : (backTo pos (starEach es X.env)).any (·.1) = false := by rfl) :
  PE X (.Call (.Name x p) (e :: es) [] pos) (tN X.K O (gCallN G n gr)) := (pe_fn F hr hk ha hg hdb he hpl).mono fun σ H Q hh => hh.e fun U A0 δ d R ed q => by
 obtain ⟨ds, e1, e2⟩ := bind1 ed
 split at e2
 ·rename_i hn
  refine ⟨U, A0, δ, ds, R, e1, fun vs H' s h => ?_⟩
  show spN X.K n G (vs ++ []) H' Q E0
  rw [List.append_nil]
  exact ⟨by rw [h.len]; exact hn, U ++ A0, ds, d, (R.same s).al, h, e2, fun r ys H2 s2 h0 h1 h2 => q r ys H2 (s.trans s2) (s.free h0) h1 h2⟩
 ·cases e2
set_option tactic.hygienic true in
theorem pd_callSh {G : List D -> Option D} (F : Dn X.prog X.w X.K X.mg X.base k x ps (spD X.K n G)) (hr : Room kk X.A) (hk : k <= kk) (ha : PA X (e :: es) (tAsh X.K O gr)) (hg : Gl X x := by rfl)
  (hdb : (x == ("__debug__" : Str)) = false := by decide) (he : starEach (e :: es) X.env = (false, eval e X.env) :: starEach es X.env := by rfl) (hpl : (backTo pos (starEach es X.env)).any (·.1) = false := by rfl) :
  PE X (.Call (.Name x p) (e :: es) [] pos) (tE X.K O (gCallSh G n gr)) := (pe_fn F hr hk ha hg hdb he hpl).mono fun σ H Q hh => hh.e fun U A0 δ d R ed q => by
 obtain ⟨ds, e1, e2⟩ := bind1 ed
 split at e2
 ·rename_i hn
  obtain ⟨d', e3, e4⟩ := bind1 e2
  split at e4
  ·rename_i hL
   cases e4
   refine ⟨U, A0, δ, ds, R, e1, fun vs H' s h => ?_⟩
   show spD X.K n G (vs ++ []) H' Q E0
   rw [List.append_nil]
   have h' := h.isDs
   refine ⟨by rw [h'.len]; exact hn, [], ds, d, ⟨fun _ z => by simp at z, (R.same s).al.2⟩, by rw [wo_nil]; exact h', e3, fun v H2 s2 h2 => q v H2 (s.trans s2) ?_⟩
   rw [wo_nil] at h2
   exact h2.off (R.same (s.trans s2)).al hL
  ·cases e4
 ·cases e2
end
noncomputable def ImpC (K : PySem.W.Frag) (r : List V -> Hp -> VK -> Prop) (f : List D -> Option D) : Prop := ∀ (A : List Addr) (H : Hp) (vs : List V) (ds : List D) (d : D) (Q : VK), Ls A H -> ShDs K A H vs ds -> f ds = some d -> (∀ v H', Same H H' -> HD K (wo H' A) v d -> Q v H') -> r vs H Q
noncomputable def ImpCN (K : PySem.W.Frag) (r : List V -> Hp -> VK -> Prop) (f : List D -> Option (List D)) : Prop := ∀ (A : List Addr) (H : Hp) (vs : List V) (ds : List D) (d : List D) (Q : VK), Ls A H -> ShDs K A H vs ds -> f ds = some d ->
 (∀ p ys, H p = none -> HDs K (wo H A) ys d -> Q (.ref p) (upd H p (.lst ys))) -> r vs H Q
noncomputable def gB1 (f : List D -> Option D) (g : DS -> Option (List D)) : DS -> Option D := fun δ => (g δ).bind f
noncomputable def gB1N (f : List D -> Option (List D)) (g : DS -> Option (List D)) : DS -> Option (List D) := fun δ => (g δ).bind f
section
variable {X : Cx} {O : List Nat} {e : Expr} {es : List Expr} {gr : DS -> Option (List D)} {pos p : Pos} {x : Str} {r : List V -> Hp -> VK -> Prop} {id T : String}
theorem tCB_E {K : PySem.W.Frag} {f : List D -> Option D} (imp : ImpC K r f) {σ : St} {H : Hp} {Q : VK} : tE K O (gB1 f gr) σ H Q -> tCB r (tAsh K O gr) σ H Q := by
 rintro ⟨U, A0, δ, d, R, ed, q⟩
 obtain ⟨ds, e1, e2⟩ := bind1 ed
 exact ⟨U, A0, δ, ds, R, e1, fun vs H' s h => imp _ H' vs ds d Q (R.same s).al h e2 fun v H2 s2 h2 => q v H2 (s.trans s2) h2⟩
theorem tCB_N {K : PySem.W.Frag} {f : List D -> Option (List D)} (imp : ImpCN K r f) {σ : St} {H : Hp} {Q : VK} : tN K O (gB1N f gr) σ H Q -> tCB r (tAsh K O gr) σ H Q := by
 rintro ⟨U, A0, δ, d, R, ed, q⟩
 obtain ⟨ds, e1, e2⟩ := bind1 ed
 exact ⟨U, A0, δ, ds, R, e1, fun vs H' s h => imp _ H' vs ds d Q (R.same s).al h e2 (new_q s q)⟩
theorem pd_callB {f : List D -> Option D} (hc : CallR X (.builtin id) r) (imp : ImpC X.K r f) (hg : Gl X x) (hm : X.mg x = none) (hv : bootBuiltins x = some (.builtin id)) (ha : PA X (e :: es) (tAsh X.K O gr)) (hn : x ≠ "__name__" := by decide) (hdb : (x == ("__debug__" : Str)) = false := by decide)
  (he : starEach (e :: es) X.env = (false, eval e X.env) :: starEach es X.env := by rfl) (hpl : (backTo pos (starEach es X.env)).any (·.1) = false := by rfl) : PE X (.Call (.Name x p) (e :: es) [] pos) (tE X.K O (gB1 f gr)) :=
 (pe_callB hc hg hm hv ha hn hdb he hpl).mono fun _ _ _ => tCB_E imp
theorem pd_callTy {f : List D -> Option D} (hc : CallR X (.type T) r) (imp : ImpC X.K r f) (hg : Gl X x) (hm : X.mg x = none) (hv : bootBuiltins x = some (.type T)) (ha : PA X (e :: es) (tAsh X.K O gr)) (hn : x ≠ "__name__" := by decide) (hdb : (x == ("__debug__" : Str)) = false := by decide)
  (he : starEach (e :: es) X.env = (false, eval e X.env) :: starEach es X.env := by rfl) (hpl : (backTo pos (starEach es X.env)).any (·.1) = false := by rfl) : PE X (.Call (.Name x p) (e :: es) [] pos) (tE X.K O (gB1 f gr)) :=
 (pe_callTy hc hg hm hv ha hn hdb he hpl).mono fun _ _ _ => tCB_E imp
theorem pd_callTyN {f : List D -> Option (List D)} (hc : CallR X (.type T) r) (imp : ImpCN X.K r f) (hg : Gl X x) (hm : X.mg x = none) (hv : bootBuiltins x = some (.type T)) (ha : PA X (e :: es) (tAsh X.K O gr)) (hn : x ≠ "__name__" := by decide) (hdb : (x == ("__debug__" : Str)) = false := by decide)
  (he : starEach (e :: es) X.env = (false, eval e X.env) :: starEach es X.env := by rfl) (hpl : (backTo pos (starEach es X.env)).any (·.1) = false := by rfl) : PE X (.Call (.Name x p) (e :: es) [] pos) (tN X.K O (gB1N f gr)) :=
 (pe_callTy hc hg hm hv ha hn hdb he hpl).mono fun _ _ _ => tCB_N imp
end
theorem sh1 {K : PySem.W.Frag} {A : List Addr} {H : Hp} {vs : List V} {d : D} (h : ShDs K A H vs [d]) : ∃ v, vs = [v] /\ ShD K A H v d := by
 unfold ShDs at h
 cases h with
 | cons a t => cases t; exact ⟨_, rfl, a⟩
theorem sh2 {K : PySem.W.Frag} {A : List Addr} {H : Hp} {vs : List V} {d e : D} (h : ShDs K A H vs [d, e]) : ∃ v u, vs = [v, u] /\ ShD K A H v d /\ ShD K A H u e := by
 unfold ShDs at h
 cases h with
 | cons a t => cases t with
   | cons b t => cases t; exact ⟨_, _, rfl, a, b⟩
noncomputable def dLen : List D -> Option D
 | [.list l] => some (.int l.length)
 | [.tuple l] => some (.int l.length)
 | [.str z] => if z.length <= 100000 then some (.int z.length) else none
 | _ => none
theorem call_lenU {X : Cx} : CallR X (.builtin "len") (fun xs H Q => (∃ p ys, xs = [.ref p] /\ (SqL X.K H p ys \/ SqT X.K H p ys) /\ Q (.int ys.length) H) \/ ∃ z, xs = [.str z] /\ z.length <= sizeLine /\ Q (.int z.length) H) := call_len_seq.or call_len_str
theorem imp_len {K : PySem.W.Frag} : ImpC K (fun xs H Q => (∃ p ys, xs = [.ref p] /\ (SqL K H p ys \/ SqT K H p ys) /\ Q (.int ys.length) H) \/ ∃ z, xs = [.str z] /\ z.length <= sizeLine /\ Q (.int z.length) H) dLen := by
 intro A H vs ds d Q al h e q
 unfold dLen at e
 split at e
 ·cases e
  obtain ⟨v, rfl, h1⟩ := sh1 h
  clear h
  have h := h1
  obtain ⟨p, xs, rfl, h1, h2⟩ := h.list
  refine .inl ⟨p, xs, rfl, .inl h1.sq, ?_⟩
  rw [h2.len]
  exact q _ H (Same.refl H) (.int _)
 ·cases e
  obtain ⟨v, rfl, h1⟩ := sh1 h
  clear h
  have h := h1
  obtain ⟨p, xs, rfl, h1, h2⟩ := h.tuple
  refine .inl ⟨p, xs, rfl, .inr h1, ?_⟩
  rw [h2.len]
  exact q _ H (Same.refl H) (.int _)
 ·split at e
  ·cases e
   obtain ⟨v, rfl, h1⟩ := sh1 h
   exact .inr ⟨_, by rw [h1.str], small (by assumption), q _ H (Same.refl H) (.int _)⟩
  ·cases e
 ·cases e
noncomputable def dAbs : List D -> Option D
 | [.int i] => some (.int (if i < 0 then -i else i))
 | _ => none
theorem imp_abs {K : PySem.W.Frag} : ImpC K (fun xs H Q => ∃ i, xs = [.int i] /\ Q (.int (if i < 0 then -i else i)) H) dAbs := by
 intro A H vs ds d Q al h e q
 unfold dAbs at e
 split at e
 ·cases e
  obtain ⟨v, rfl, h1⟩ := sh1 h
  clear h
  have h := h1
  exact ⟨_, by rw [h.int], q _ H (Same.refl H) (.int _)⟩
 ·cases e
noncomputable def dMax2 : List D -> Option D
 | [.int i, .int j] => some (.int (if j > i then j else i))
 | _ => none
noncomputable def dMin2 : List D -> Option D
 | [.int i, .int j] => some (.int (if j < i then j else i))
 | _ => none
theorem imp_max {K : PySem.W.Frag} : ImpC K (fun xs H Q => ∃ i j, xs = [.int i, .int j] /\ Q (.int (if j > i then j else i)) H) dMax2 := by
 intro A H vs ds d Q al h e q
 unfold dMax2 at e
 split at e
 ·cases e
  obtain ⟨v, u, rfl, h1, h'⟩ := sh2 h
  clear h
  have h := h1
  exact ⟨_, _, by rw [h.int, h'.int], q _ H (Same.refl H) (.int _)⟩
 ·cases e
theorem imp_min {K : PySem.W.Frag} : ImpC K (fun xs H Q => ∃ i j, xs = [.int i, .int j] /\ Q (.int (if j < i then j else i)) H) dMin2 := by
 intro A H vs ds d Q al h e q
 unfold dMin2 at e
 split at e
 ·cases e
  obtain ⟨v, u, rfl, h1, h'⟩ := sh2 h
  clear h
  have h := h1
  exact ⟨_, _, by rw [h.int, h'.int], q _ H (Same.refl H) (.int _)⟩
 ·cases e
noncomputable def dInt : List D -> Option D
 | [.int i] => some (.int i)
 | [.bool k] => some (.int (if k then 1 else 0))
 | _ => none
theorem imp_int {K : PySem.W.Frag} : ImpC K (fun xs H Q => (∃ i, xs = [.int i] /\ Q (.int i) H) \/ ∃ k, xs = [.bl k] /\ Q (.int (if k then 1 else 0)) H) dInt := by
 intro A H vs ds d Q al h e q
 unfold dInt at e
 split at e
 ·cases e
  obtain ⟨v, rfl, h1⟩ := sh1 h
  clear h
  have h := h1
  exact .inl ⟨_, by rw [h.int], q _ H (Same.refl H) (.int _)⟩
 ·cases e
  obtain ⟨v, rfl, h1⟩ := sh1 h
  clear h
  have h := h1
  exact .inr ⟨_, by rw [h.bool], q _ H (Same.refl H) (.int _)⟩
 ·cases e
noncomputable def dListN : List D -> Option (List D)
 | [.list l] => some l
 | [.tuple l] => some l
 | _ => none
theorem imp_list {K : PySem.W.Frag} : ImpCN K (fun xs H Q => ∃ p ys, xs = [.ref p] /\ (SqL K H p ys \/ SqT K H p ys) /\ ∀ l, H l = none -> Q (.ref l) (upd H l (.lst ys))) dListN := by
 intro A H vs ds d Q al h e q
 unfold dListN at e
 split at e
 ·cases e
  obtain ⟨v, rfl, h1⟩ := sh1 h
  clear h
  have h := h1
  obtain ⟨p, xs, rfl, h1, h2⟩ := h.list
  exact ⟨p, xs, rfl, .inl h1.sq, fun l hl => q l xs hl h2⟩
 ·cases e
  obtain ⟨v, rfl, h1⟩ := sh1 h
  clear h
  have h := h1
  obtain ⟨p, xs, rfl, h1, h2⟩ := h.tuple
  exact ⟨p, xs, rfl, .inr h1, fun l hl => q l xs hl h2⟩
 ·cases e
noncomputable def dTupleOf : List D -> Option D
 | [.list l] => some (.tuple l)
 | [.tuple l] => some (.tuple l)
 | _ => none
theorem imp_tuple {K : PySem.W.Frag} : ImpC K (fun xs H Q => ∃ p ys, xs = [.ref p] /\ ((SqL K H p ys /\ ∀ l, H l = none -> Q (.ref l) (upd H l (.tup ys))) \/ (SqT K H p ys /\ Q (.ref p) H))) dTupleOf := by
 intro A H vs ds d Q al h e q
 unfold dTupleOf at e
 split at e
 ·cases e
  obtain ⟨v, rfl, h1⟩ := sh1 h
  clear h
  have h := h1
  obtain ⟨p, xs, rfl, h1, h2⟩ := h.list
  exact ⟨p, xs, rfl, .inl ⟨h1.sq, fun l hl => q _ _ (same_new hl _) (HD.newT al hl h2)⟩⟩
 ·cases e
  obtain ⟨v, rfl, h1⟩ := sh1 h
  clear h
  have h := h1
  have h' := h.fz
  obtain ⟨p, xs, rfl, h1, h2⟩ := h.tuple
  exact ⟨p, xs, rfl, .inr ⟨h1, q _ H (Same.refl H) h'⟩⟩
 ·cases e
noncomputable def tyName : D -> String
 | .none => "NoneType"
 | .bool _ => "bool"
 | .int _ => "int"
 | .str _ => "str"
 | .list _ => "list"
 | .tuple _ => "tuple"
 | .dict _ => "dict"
end L2
namespace L2
open PySem PySem.Spec PyProof.Rows
theorem kit_of {K : PySem.W.Frag} {t n : String} {b : Bool} (h : (Value.type t == Value.type n) = false) (h2 : PySem.W.kitMeta n = true) (h3 : (fastBuiltinMro t).map (·.contains (Value.type n)) = some b) : PySem.W.kitOne K (.type t) (.type n) = some b := by
 unfold PySem.W.kitOne PySem.W.kitCls
 rw [h, if_neg (by decide)]
 show (if PySem.W.kitMeta n = true then PySem.W.subIn K (.type t) (.type n) else none) = some b
 rw [if_pos h2]
 exact h3
noncomputable def isiNames : List String := ["int", "bool", "str", "list", "tuple", "NoneType"]
noncomputable def dIsi (n : String) : List D -> Option D
 | [d] => if tyName d ∈ isiNames /\ n ∈ isiNames then some (.bool (decide (tyName d = n) || (decide (tyName d = "bool") && decide (n = "int")))) else none
 | _ => none
theorem kit_tab {K : PySem.W.Frag} {t n : String} (ht : t ∈ isiNames) (hn : n ∈ isiNames) : PySem.W.kitOne K (.type t) (.type n) = some (decide (t = n) || (decide (t = "bool") && decide (n = "int"))) := by
 by_cases h : t = n
 ·subst h
  rw [kit_same]; simp
 ·have all : ∀ t ∈ isiNames, ∀ n ∈ isiNames, t ≠ n -> (Value.type t == Value.type n) = false /\ PySem.W.kitMeta n = true /\ (fastBuiltinMro t).map (·.contains (Value.type n)) = some (decide (t = n) || (decide (t = "bool") && decide (n = "int"))) := by decide +kernel
  obtain ⟨h1, h2, h3⟩ := all t ht n hn h
  exact kit_of h1 h2 h3
theorem ShD.ty {K : PySem.W.Frag} {A : List Addr} {H : Hp} {v : V} {d : D} (h : ShD K A H v d) (hn : tyName d ∈ isiNames) : TyW K H v (tyName d) := by
 cases d with
 | none => rw [h.non]; exact .inl .non
 | bool b => rw [h.bool]; exact .inl (.bl b)
 | int i => rw [h.int]; exact .inl (.int i)
 | str x => rw [h.str]; exact .inl (.str x)
 | list l => obtain ⟨p, xs, rfl, h1, _⟩ := h.list; exact .inr (.inr ⟨p, xs, rfl, h1.sq, rfl⟩)
 | tuple l => obtain ⟨p, xs, rfl, h1, _⟩ := h.tuple; exact .inr (.inl ⟨p, xs, rfl, h1, rfl⟩)
 | dict l => simp [tyName, isiNames] at hn
section
variable {X : Cx} {O : List Nat} {e : Expr} {ga : DS -> Option D} {pos p p2 : Pos}
noncomputable def gIsi (n : String) (g : DS -> Option D) : DS -> Option D := fun δ => (g δ).bind fun d => dIsi n [d]
set_option tactic.hygienic true in
theorem pd_isi {n : Str} (T : String) (hB : X.mg "isinstance" = none) (ha : PE X e (tSh X.K O ga)) (ht : PE X (.Name n p2) (tC (.ty T))) (hg : Gl X "isinstance" := by rfl)
  (he : starEach [e, .Name n p2] X.env = (false, eval e X.env) :: starEach [.Name n p2] X.env := by rfl) (he2 : starEach [.Name n p2] X.env = (false, eval (.Name n p2) X.env) :: starEach [] X.env := by rfl) (hpl : (backTo pos (starEach [.Name n p2] X.env)).any (·.1) = false := by rfl) :
  PE X (.Call (.Name "isinstance" p) [e, .Name n p2] [] pos) (tE X.K O (gIsi T ga)) :=
 (pe_callB call_isi hg hB bt_isinstance (pa_cons ha (pa_cons ht pa_nil he2) he) (by decide) (by decide) he hpl).mono fun σ H Q hh => hh.e fun U A0 δ d R ed q => by
  obtain ⟨x, e1, e2⟩ := bind1 ed
  have e3 : (if tyName x ∈ isiNames /\ T ∈ isiNames then some (PyData.bool (decide (tyName x = T) || (decide (tyName x = "bool") && decide (T = "int")))) else none) = some d := e2
  split at e3
  ·rename_i hz
   cases e3
   refine ⟨U, A0, δ, x, R, e1, fun v H' s h => ?_⟩
   exact ⟨v, T, tyName x, _, rfl, h.ty hz.1, kit_tab hz.1 hz.2, q _ H' s (.bl _)⟩
  ·cases e3
end
noncomputable def gPart (g : DS -> Option D) : DS -> Option (Option Int) := fun δ => (g δ).bind fun | .int i => some (some i) | _ => none
noncomputable def gNoPart : DS -> Option (Option Int) := fun _ => some none
noncomputable def tOs (K : PySem.W.Frag) (O : List Nat) (g : DS -> Option (Option Int)) : TO := fun σ H Q => ∃ U A0 δ d, Rel K O U A0 σ δ H /\ g δ = some d /\ ∀ H', Same H H' -> Q d H'
theorem tOs.e {K : PySem.W.Frag} {O : List Nat} {g : DS -> Option (Option Int)}  {σ : _} {H : _} {Q : _} {GG : Prop} (hh : tOs K O g σ H Q) (kk : ∀ U A0 δ d, (Rel K O U A0 σ δ H) -> (g δ = some d) -> (∀ H', Same H H' -> Q d H') -> GG) : GG := by obtain ⟨U, A0, δ, d, x0, x1, x2⟩ := hh; exact kk U A0 δ d x0 x1 x2
noncomputable def cutD (xs : List D) (lo hi : Option Int) : List D := (xs.drop (HT.sIx xs.length 0 lo)).take (HT.sIx xs.length xs.length hi - HT.sIx xs.length 0 lo)
noncomputable def gSlL (a : DS -> Option D) (lo hi : DS -> Option (Option Int)) : DS -> Option (List D) := fun δ => (a δ).bind fun x => (lo δ).bind fun l => (hi δ).bind fun h => match x with
 | .list ds => some (cutD ds l h)
 | _ => none
section
variable {X : Cx} {O : List Nat} {e : Expr} {lo hi : Option Expr} {ga : DS -> Option D} {gl gh : DS -> Option (Option Int)} {pos p2 : Pos}
theorem pd_pnone : PO X none (tOs X.K O gNoPart) := po_none.mono fun σ H Q hh => hh.e fun U A0 δ d R ed q => by cases ed; exact q H (Same.refl H)
theorem pd_psome (h : PE X e (tSh X.K O ga)) : PO X (some e) (tOs X.K O (gPart ga)) := (po_some h).mono fun σ H Q hh => hh.e fun U A0 δ d R ed q => by
 obtain ⟨x, e1, e2⟩ := bind1 ed
 cases x with
 | int i => cases e2; exact ⟨U, A0, δ, _, R, e1, fun v H' s h => ⟨i, h.int, q H' s⟩⟩
 | _ => cases e2
theorem pd_slL (ha : PE X e (tSh X.K O ga)) (hl : PO X lo (tOs X.K O gl)) (hh : PO X hi (tOs X.K O gh)) : PE X (.Subscript e (.Slice lo hi none p2) pos) (tN X.K O (gSlL ga gl gh)) := (pe_slice sl_list ha hl hh).mono fun σ H Q hh => hh.e fun U A0 δ d R ed q => by
 obtain ⟨x, e1, e2⟩ := bind1 ed
 obtain ⟨l, e3, e4⟩ := bind1 e2
 obtain ⟨h, e5, e6⟩ := bind1 e4
 cases x with
 | list ds =>
   cases e6
   refine ⟨U, A0, δ, _, R, e1, fun v H1 s1 h1 => ⟨U, A0, δ, l, R.same s1, e3, fun H2 s2 => ⟨U, A0, δ, h, R.same (s1.trans s2), e5, fun H3 s3 => ?_⟩⟩⟩
   obtain ⟨p, xs, rfl, r1, r2⟩ := (h1.same (s2.trans s3)).list
   refine ⟨p, xs, rfl, r1.sq, fun r hr => new_q ((s1.trans s2).trans s3) q r _ hr ?_⟩
   unfold cutV cutD
   rw [r2.len]
   exact (r2.dropD _).takeD _
 | _ => cases e6
end
noncomputable def gSeq (a b : DS -> Option Res) : DS -> Option Res := fun δ => (a δ).bind fun | .nx δ' => b δ' | r => some r
noncomputable def gSkip : DS -> Option Res := fun δ => some (.nx δ)
noncomputable def gIf (c : DS -> Option Bool) (a b : DS -> Option Res) : DS -> Option Res := fun δ => (c δ).bind fun x => if x = true then a δ else b δ
noncomputable def gSet (i : Nat) (g : DS -> Option D) : DS -> Option Res := fun δ => (g δ).bind fun d => some (.nx (δ.set i (some d)))
noncomputable def gSetN (i : Nat) (g : DS -> Option (List D)) : DS -> Option Res := fun δ => (g δ).bind fun d => some (.nx (δ.set i (some (.list d))))
noncomputable def gRet (g : DS -> Option D) : DS -> Option Res := fun δ => (g δ).bind fun d => some (.rt d)
section
variable {X : Cx} {O : List Nat} {fr : Fr} {xk : Str -> Hp -> Prop} {st : Stmt} {rest a b : List Stmt} {ga gb : DS -> Option Res} {gc : DS -> Option Bool} {ge : DS -> Option D} {gl : DS -> Option (List D)} {e c : Expr} {pos : Pos}
theorem pd_seq (h1 : PS X st (tS X.K O fr ga)) (h2 : PSs X rest (tS X.K O fr gb)) : PSs X (st :: rest) (tS X.K O fr (gSeq ga gb)) := (pss_cons h1 h2).mono fun E σ H hh => hh.e fun H0 U A0 δ r R F ed P => by
 obtain ⟨r1, e1, e2⟩ := bind1 ed
 cases r1 with
 | nx δ' => exact ⟨H0, U, A0, δ, .nx δ', R, F, e1, fun U' σ' H' R' F' => ⟨H0, U', A0, δ', r, R', F', e2, P⟩⟩
 | rt d => cases e2; exact ⟨H0, U, A0, δ, _, R, F, e1, P⟩
 | bk d => cases e2; exact ⟨H0, U, A0, δ, _, R, F, e1, P⟩
 | ct d => cases e2; exact ⟨H0, U, A0, δ, _, R, F, e1, P⟩
theorem pd_one (h1 : PS X st (tS X.K O fr ga)) : PSs X [st] (tS X.K O fr ga) := pss_one h1
theorem pd_nil : PSs X [] (tS X.K O fr gSkip) := pss_nil.mono fun E σ H hh => hh.e fun H0 U A0 δ r R F ed P => by cases ed; exact P U σ H R F
theorem pd_if (hc : PT X c (tT X.K O gc)) (ha : PSs X a (tS X.K O fr ga)) (hb : PSs X b (tS X.K O fr gb)) : PS X (.If c a b pos) (tS X.K O fr (gIf gc ga gb)) := (ps_if hc ha hb).mono fun E σ H hh => hh.e fun H0 U A0 δ r R F ed P => by
 obtain ⟨x, e1, e2⟩ := bind1 ed
 refine ⟨U, A0, δ, x, R, e1, fun H' s => ?_⟩
 cases x with
 | true => rw [if_pos rfl] at e2 ⊢; exact ⟨H0, U, A0, δ, r, R.same s, F.grow s, e2, P⟩
 | false => rw [if_neg Bool.false_ne_true] at e2 ⊢; exact ⟨H0, U, A0, δ, r, R.same s, F.grow s, e2, P⟩
theorem pd_set {i : Nat} (h : PS X st (tAsg (tE X.K O ge) (gName i))) (hi : i ∉ O := by decide) : PS X st (tS X.K O fr (gSet i ge)) := h.mono fun E σ H hh => hh.e fun H0 U A0 δ r R F ed P => by
 obtain ⟨d, e1, e2⟩ := bind1 ed
 cases e2
 exact ⟨U, A0, δ, d, R, e1, fun v H' s hv => P U _ H' ((R.same s).set hi hv) (F.grow s)⟩
theorem pd_setN {i : Nat} (h : PS X st (tAsg (tN X.K O gl) (gName i))) (hi : i ∈ O := by decide) : PS X st (tS X.K O fr (gSetN i gl)) := h.mono fun E σ H hh => hh.e fun H0 U A0 δ r R F ed P => by
 obtain ⟨d, e1, e2⟩ := bind1 ed
 cases e2
 exact ⟨U, A0, δ, d, R, e1, fun r ys H' s hr h1 h2 => P (r :: U) _ H' (R.setN s hr h1 h2 hi) (F.more s hr)⟩
theorem pd_ret (h : PE X e (tE X.K O ge)) : PS X (.Return (some e) pos) (tS X.K O (false, xk) (gRet ge)) := (ps_ret h).mono fun E σ H hh => hh.e fun H0 U A0 δ r R F ed P => by
 obtain ⟨d, e1, e2⟩ := bind1 ed
 cases e2
 refine ⟨U, A0, δ, d, R, e1, fun v H' s hv => P.1 v H' ?_⟩
 unfold RetR
 rw [if_neg Bool.false_ne_true]
 exact ⟨F.same.trans s, hv.same (wo_sub fun a ha => List.mem_append_right _ ha)⟩
theorem pd_retN (h : PE X e (tN X.K O gl)) : PS X (.Return (some e) pos) (tS X.K O (true, xk) (gRet (gLst gl))) := (ps_ret h).mono fun E σ H hh => hh.e fun H0 U A0 δ r R F ed P => by
 obtain ⟨d, e1, e2⟩ := bind1 ed
 cases e2
 unfold gLst at e1
 cases eg : gl δ with
 | none => rw [eg] at e1; cases e1
 | some l =>
   rw [eg] at e1; cases e1
   refine ⟨U, A0, δ, l, R, eg, fun r ys H' s hr h1 h2 => P.1 (.ref r) H' ?_⟩
   unfold RetR
   rw [if_pos rfl]
   refine ⟨r, _, rfl, F.same.trans s, F.same.free hr, h1, .lst (h2.same (wo_sub fun a ha => ?_))⟩
   rcases List.mem_cons.mp ha with z | z
   ·subst z; simp
   ·exact List.mem_cons_of_mem _ (List.mem_append_right _ z)
theorem pd_retOwn {i : Nat} (h : PE X e (tVar i)) (hi : i ∈ O := by decide) : PS X (.Return (some e) pos) (tS X.K O fr (gRet (gVar i))) := (ps_ret h).mono fun E σ H hh => hh.e fun H0 U A0 δ r R F ed P => by
 obtain ⟨d, e1, e2⟩ := bind1 ed
 cases e2
 obtain ⟨l, o, hl, hU, h1, h2⟩ := R.ow i d hi (join_some e1)
 refine ⟨.ref l, hl, P.1 (.ref l) H ?_⟩
 unfold RetR
 split
 ·refine ⟨l, o, rfl, F.same, F.new l hU, h1, h2.same (wo_sub fun a ha => ?_)⟩
  rcases List.mem_cons.mp ha with z | z
  ·subst z; exact List.mem_append_left _ hU
  ·exact List.mem_append_right _ z
 ·refine ⟨F.same, (h2.same (wo_sub fun a ha => List.mem_append_right _ ha)).hd ?_⟩
  rw [wo_out (F.out hU)]; exact h1
noncomputable def gApp (i : Nat) (g : DS -> Option D) : DS -> Option Res := fun δ => (gVar i δ).bind fun x => (g δ).bind fun d => match x with
 | .list ds => if ds.length < 100000 then some (.nx (δ.set i (some (.list (ds ++ [d]))))) else none
 | _ => none
set_option tactic.hygienic true in
theorem pd_append {i : Nat} (h : PS X st (tDrop (tBM X.K "list" rAppend (tVar i) (tCons (tE X.K O ge) tNil)))) (hi : i ∈ O := by decide) : PS X st (tS X.K O fr (gApp i ge)) := h.mono fun E σ H hh => hh.e fun H0 U A0 δ r R F ed P => by
 obtain ⟨x, e1, e2⟩ := bind1 ed
 obtain ⟨d, e3, e4⟩ := bind1 e2
 rcases R.owL i x hi (join_some e1) with ⟨l, ys, ds, hl, rfl, hU, h1, h2⟩ | ⟨kds, rfl⟩
 rotate_left
 ·(exfalso; simp_all; done)
 simp only at e4
 split at e4
 ·rename_i hz
  cases e4
  refine ⟨.ref l, hl, .inl ⟨rfl, ys, SqL.of h1⟩, U, A0, δ, d, R, e3, fun v H' s hv => ?_⟩
  have h1' := s _ _ h1
  have h2' := h2.same (wo_mono (A := U ++ A0) s)
  have hlen := h2.len
  refine ⟨l, ys, v, rfl, rfl, h1', small' (by lia), ?_⟩
  exact P U σ _ ((R.same s).put hi hl hU (h2'.app (.cons hv .nil)) ⟨_, join_some e1⟩) ((F.grow s).put hU _)
 ·cases e4
end
noncomputable def whN (c : DS -> Option Bool) (b : DS -> Option Res) : Nat -> DS -> Option Res
 | 0, _ => none
 | n + 1, δ => (c δ).bind fun x => if x = true then (b δ).bind (fun | .nx δ' => whN c b n δ' | .ct δ' => whN c b n δ' | .bk δ' => some (.nx δ') | .rt d => some (.rt d)) else some (.nx δ)
theorem whN_up {c : DS -> Option Bool} {b : DS -> Option Res} : ∀ {n : Nat} {δ : DS} {r : Res}, whN c b n δ = some r -> whN c b (n + 1) δ = some r
 | 0, _, _, h => by cases h
 | n + 1, δ, r, h => by
   rw [whN] at h ⊢
   obtain ⟨x, e1, e2⟩ := bind1 h
   rw [e1, Option.bind_some]
   cases x with
   | false => exact e2
   | true =>
     rw [if_pos rfl] at e2 ⊢
     obtain ⟨q, e3, e4⟩ := bind1 e2
     rw [e3, Option.bind_some]
     cases q with
     | nx δ' => exact whN_up e4
     | ct δ' => exact whN_up e4
     | bk _ => exact e4
     | rt _ => exact e4
theorem whN_le {c : DS -> Option Bool} {b : DS -> Option Res} {n m : Nat} {δ : DS} {r : Res} (h : whN c b n δ = some r) (hm : n <= m) : whN c b m δ = some r := by
 induction hm with
 | refl => exact h
 | step _ ih => exact whN_up ih
open Classical in
noncomputable def gWhile (c : DS -> Option Bool) (b : DS -> Option Res) : DS -> Option Res := fun δ => if h : ∃ p : Nat × Res, whN c b p.1 δ = some p.2 then some (choose h).2 else none
set_option tactic.hygienic true in
theorem gWhile_some {c : DS -> Option Bool} {b : DS -> Option Res} {δ : DS} {r : Res} (h : gWhile c b δ = some r) : ∃ n, whN c b n δ = some r := by
 unfold gWhile at h
 split at h
 ·rename_i hp
  cases h
  exact ⟨_, Classical.choose_spec hp⟩
 ·cases h
theorem gWhile_of {c : DS -> Option Bool} {b : DS -> Option Res} {n : Nat} {δ : DS} {r : Res} (h : whN c b n δ = some r) : gWhile c b δ = some r := by
 have hp : ∃ p : Nat × Res, whN c b p.1 δ = some p.2 := ⟨(n, r), h⟩
 unfold gWhile
 rw [dif_pos hp]
 have h2 := Classical.choose_spec hp
 have a1 := whN_le h (Nat.le_max_left n (Classical.choose hp).1)
 have a2 := whN_le h2 (Nat.le_max_right n (Classical.choose hp).1)
 rw [a1] at a2
 exact a2.symm
theorem gWhile_by {c : DS -> Option Bool} {b : DS -> Option Res} (W : Nat -> DS -> Prop) (r : DS -> Res -> Prop) (m : Nat) (δ : DS) (h : W m δ)
  (hs : ∀ m δ, W m δ -> (c δ = some false /\ r δ (.nx δ)) \/ (c δ = some true /\ ((∃ δ' m', (b δ = some (.nx δ') \/ b δ = some (.ct δ')) /\ m' < m /\ W m' δ' /\ ∀ q, r δ' q -> r δ q) \/ (∃ δ', b δ = some (.bk δ') /\ r δ (.nx δ')) \/ ∃ d, b δ = some (.rt d) /\ r δ (.rt d)))) :
  ∃ q, gWhile c b δ = some q /\ r δ q := by
 suffices hh : ∀ k m δ, m < k -> W m δ -> ∃ n q, whN c b n δ = some q /\ r δ q by
  obtain ⟨n, q, e, hq⟩ := hh (m + 1) m δ (Nat.lt_succ_self m) h
  exact ⟨q, gWhile_of e, hq⟩
 intro k
 induction k with
 | zero => intro m δ hm; lia
 | succ k ih =>
   intro m δ hm hW
   rcases hs m δ hW with ⟨hc, hr⟩ | ⟨hc, ⟨δ', m', hb, hlt, hW', imp⟩ | ⟨δ', hb, hr⟩ | ⟨d, hb, hr⟩⟩
   ·exact ⟨1, _, by rw [whN, hc]; rfl, hr⟩
   ·obtain ⟨n, q, e, hq⟩ := ih m' δ' (by lia) hW'
    refine ⟨n + 1, q, ?_, imp q hq⟩
    rw [whN, hc, Option.bind_some, if_pos rfl]
    rcases hb with hb | hb <;> rw [hb, Option.bind_some] <;> exact e
   ·exact ⟨1, _, by rw [whN, hc, Option.bind_some, if_pos rfl, hb]; rfl, hr⟩
   ·exact ⟨1, _, by rw [whN, hc, Option.bind_some, if_pos rfl, hb]; rfl, hr⟩
section
variable {X : Cx} {O : List Nat} {fr : Fr} {body : List Stmt} {gb : DS -> Option Res} {gc : DS -> Option Bool} {c : Expr} {pos : Pos}
theorem pd_while (hp : PassesOwn (model X.prog X.w) X.A X.env X.xe) (hc : PT X c (tT X.K O gc)) (hb : PSs X body (tS X.K O fr gb)) : PS X (.While c body [] pos) (tS X.K O fr (gWhile gc gb)) := (ps_while hp hc hb).mono fun E σ H hh => hh.e fun H0 U A0 δ r R F ed P => by
 obtain ⟨n, en⟩ := gWhile_some ed
 refine ⟨fun m σ H => ∃ U δ, Rel X.K O U A0 σ δ H /\ Fx H0 A0 U H /\ whN gc gb m δ = some r, ⟨n, U, δ, R, F, en⟩, ?_⟩
 rintro m σ H ⟨U, δ, R, F, em⟩
 cases m with
 | zero => cases em
 | succ m =>
   rw [whN] at em
   obtain ⟨x, e1, e2⟩ := bind1 em
   refine ⟨U, A0, δ, x, R, e1, fun H' s => ?_⟩
   cases x with
   | false => rw [if_neg Bool.false_ne_true] at e2 ⊢; cases e2; exact P U σ H' (R.same s) (F.grow s)
   | true =>
     rw [if_pos rfl] at e2 ⊢
     obtain ⟨q, e3, e4⟩ := bind1 e2
     refine ⟨fun σ' H' => ∃ m', m' < m + 1 /\ ∃ U δ, Rel X.K O U A0 σ' δ H' /\ Fx H0 A0 U H' /\ whN gc gb m' δ = some r, fun _ _ h => h, H0, U, A0, δ, q, R.same s, F.grow s, e3, ?_⟩
     cases q with
     | nx δ' => exact fun U' σ' H' R' F' => ⟨m, Nat.lt_succ_self m, U', δ', R', F', e4⟩
     | ct δ' => exact fun U' σ' H' R' F' => ⟨m, Nat.lt_succ_self m, U', δ', R', F', e4⟩
     | bk δ' => cases e4; exact P
     | rt d => cases e4; exact P
end
noncomputable def gName' (i : Nat) : D -> DS -> Option DS := fun d δ => some (δ.set i (some d))
noncomputable def gTupT (n : Nat) (g : List D -> DS -> Option DS) : D -> DS -> Option DS := fun d δ => match d with
 | .tuple ds => if ds.length = n then g ds δ else none
 | _ => none
noncomputable def gNilT : List D -> DS -> Option DS := fun ds δ => if ds = [] then some δ else none
noncomputable def gConsT (t : D -> DS -> Option DS) (u : List D -> DS -> Option DS) : List D -> DS -> Option DS := fun ds δ => match ds with
 | d :: r => (t d δ).bind fun δ' => u r δ'
 | [] => none
noncomputable def tGs (K : PySem.W.Frag) (O : List Nat) (g : List D -> DS -> Option DS) : TGs := fun vs σ H Q => ∃ U A0 δ ds δ', Rel K O U A0 σ δ H /\ HDs K (wo H (U ++ A0)) vs ds /\ g ds δ = some δ' /\ ∀ σ', Rel K O U A0 σ' δ' H -> Q σ' H
theorem tGs.e {K : PySem.W.Frag} {O : List Nat} {g : List D -> DS -> Option DS}  {vs : _} {σ : _} {H : _} {Q : _} {GG : Prop} (hh : tGs K O g vs σ H Q) (kk : ∀ U A0 δ ds δ', (Rel K O U A0 σ δ H) -> (HDs K (wo H (U ++ A0)) vs ds) -> (g ds δ = some δ') -> (∀ σ', Rel K O U A0 σ' δ' H -> Q σ' H) -> GG) : GG := by obtain ⟨U, A0, δ, ds, δ', x0, x1, x2, x3⟩ := hh; exact kk U A0 δ ds δ' x0 x1 x2 x3
section
variable {X : Cx} {O : List Nat} {e : Expr} {es : List Expr} {pos : Pos}
theorem PGs.mono {t t' : TGs} (h : PGs X es t) (m : ∀ v σ H Q, t' v σ H Q -> t v σ H Q) : PGs X es t' := fun pins s σ H v u Q I r q => h pins s σ H v u Q I r (m v σ H Q q)
theorem pd_gname {i : Nat} (h : PG X e (gName i)) (hi : i ∉ O := by decide) : PG X e (tG X.K O (gName' i)) := h.mono fun v σ H Q hh => hh.e fun U A0 δ d δ' R hd e1 q => by
 cases e1
 exact q _ (R.set hi hd)
set_option tactic.hygienic true in
theorem pd_gnil : PGs X [] (tGs X.K O gNilT) := pgs_nil.mono fun vs σ H Q hh => hh.e fun U A0 δ ds δ' R hd e1 q => by
 unfold gNilT at e1
 split at e1
 ·rename_i hz
  cases e1
  subst hz
  cases hd
  exact ⟨rfl, q σ R⟩
 ·cases e1
theorem pd_gcons {t : D -> DS -> Option DS} {u : List D -> DS -> Option DS} (h1 : PG X e (tG X.K O t)) (h2 : PGs X es (tGs X.K O u)) (hs : (assignEach (e :: es) X.env).map (·.2) = assign e X.env :: (assignEach es X.env).map (·.2) := by rfl) : PGs X (e :: es) (tGs X.K O (gConsT t u)) :=
 (pgs_cons h1 h2 hs).mono fun vs σ H Q hh => hh.e fun U A0 δ ds δ' R hd e1 q => by
  cases hd with
  | nil => cases e1
  | cons hx hr =>
    obtain ⟨δ1, e2, e3⟩ := bind1 e1
    exact ⟨_, _, rfl, U, A0, δ, _, δ1, R, hx, e2, fun σ1 R1 => ⟨U, A0, δ1, _, δ', R1, hr, e3, q⟩⟩
set_option tactic.hygienic true in
theorem pd_gtup {n k : Nat} {t : List D -> DS -> Option DS} (hc : X.calm = true) (h : PGs X es (tGs X.K O t)) (hn : (assignEach es X.env).length = n := by rfl) (hst : (assignEach es X.env).findIdx? (·.1) = none := by rfl) : PG X (.Tuple es k pos) (tG X.K O (gTupT n t)) :=
 (pg_tup hc h hn hst).mono fun v σ H Q hh => hh.e fun U A0 δ d δ' R hd e1 q => by
  unfold gTupT at e1
  split at e1
  ·split at e1
   ·rename_i hz
    obtain ⟨a, xs, rfl, h1, h2⟩ := (ShD.of hd).tuple
    exact ⟨a, xs, rfl, h1, by rw [h2.len]; exact hz, U, A0, δ, _, δ', R, h2, e1, q⟩
   ·cases e1
  ·cases e1
end
noncomputable def forD (t : D -> DS -> Option DS) (b : DS -> Option Res) : List D -> DS -> Option Res
 | [], δ => some (.nx δ)
 | d :: ds, δ => (t d δ).bind fun δ1 => (b δ1).bind fun | .nx δ' => forD t b ds δ' | .ct δ' => forD t b ds δ' | .bk δ' => some (.nx δ') | .rt d => some (.rt d)
noncomputable def gFor (gi : DS -> Option (List D)) (t : D -> DS -> Option DS) (b : DS -> Option Res) : DS -> Option Res := fun δ => (gi δ).bind fun ds => forD t b ds δ
theorem Fx.overW {H0 H H' : Hp} {A0 U : List Addr} (F : Fx H0 A0 U H) (s : Same (wo H U) H') : Same H0 H' := fun a o e => s a o (by
 rw [wo_out fun z => ?_]
 ·exact F.same _ _ e
 ·rw [F.new a z] at e; cases e)
set_option tactic.hygienic true in
theorem RetR.trans {K : PySem.W.Frag} {fr : Bool} {H0 H H' : Hp} {A0 U : List Addr} {v : V} {d : D} (F : Fx H0 A0 U H) (h : RetR K fr (wo H U) A0 v d H') : RetR K fr H0 A0 v d H' := by
 have k : ∀ a o, H0 a = some o -> wo H U a = some o := fun a o e => by
  rw [wo_out fun z => ?_]
  ·exact F.same _ _ e
  ·rw [F.new a z] at e; cases e
 unfold RetR at h ⊢
 split
 ·rename_i hf
  rw [if_pos hf] at h
  obtain ⟨r, ob, a, c, e, f, g⟩ := h
  refine ⟨r, ob, a, fun x o q => c _ _ (k x o q), ?_, f, g⟩
  cases q : H0 r with
  | none => rfl
  | some o => rw [k r o q] at e; cases e
 ·rename_i hf
  rw [if_neg hf] at h
  exact ⟨fun x o q => h.1 _ _ (k x o q), h.2⟩
section
variable {X : Cx} {O : List Nat} {fr : Fr} {body : List Stmt} {gb : DS -> Option Res} {gi : DS -> Option (List D)} {tg iter : Expr} {gt : D -> DS -> Option DS} {pos : Pos}
theorem pd_for (hp : PassesOwn (model X.prog X.w) X.A X.env X.xe) (hc : X.calm = true) (hi : PI X tg iter (tI X.K O gi)) (hg : PG X tg (tG X.K O gt)) (hb : PSs X body (tS X.K O fr gb))
  (hs : ∀ x, foldedSetIterable iter X.env x = pure x := by intro _; rfl) : PS X (.For tg iter body [] pos) (tS X.K O fr (gFor gi gt gb)) := (ps_for hp hc hi hg hb hs).mono fun E σ H hh => hh.e fun H0 U A0 δ r R F ed P => by
 obtain ⟨ds, e1, e2⟩ := bind1 ed
 refine ⟨U, A0, δ, ds, R, e1, fun J H1 s hw => ?_⟩
 have F1 := F.grow s
 refine ⟨fun i m σ H => m = ds.length - i /\ i <= ds.length /\ ∃ U2 δ, Rel X.K O U2 A0 σ δ H /\ Fx H0 A0 U2 H /\ Fx (wo H1 U) A0 U2 H /\ forD gt gb (ds.drop i) δ = some r, ⟨ds.length, by simp, Nat.zero_le _, U, δ, R.same s, F1, F1.here, by simpa using e2⟩, ?_⟩
 rintro i m σ H ⟨rfl, hle, U2, δ, R2, F2, G2, ef⟩
 obtain ⟨hgo, hstop⟩ := hw (U2 ++ A0) i H G2.keeps R2.al
 by_cases hlt : i < ds.length
 ·obtain ⟨d, hd⟩ : ∃ d, ds[i]? = some d := ⟨_, List.getElem?_eq_getElem hlt⟩
  have hdrop : ds.drop i = d :: ds.drop (i + 1) := by
   rw [List.drop_eq_getElem_cons hlt]
   rw [List.getElem?_eq_getElem hlt] at hd
   cases hd; rfl
  obtain ⟨go, hy⟩ := hgo d hd
  rw [hdrop, forD] at ef
  obtain ⟨δ1, e3, e4⟩ := bind1 ef
  obtain ⟨q, e5, e6⟩ := bind1 e4
  refine .inr ⟨go, fun σ' H' => ∃ m', m' < ds.length - i /\ (m' = ds.length - (i + 1) /\ i + 1 <= ds.length /\ ∃ U2 δ, Rel X.K O U2 A0 σ' δ H' /\ Fx H0 A0 U2 H' /\ Fx (wo H1 U) A0 U2 H' /\ forD gt gb (ds.drop (i + 1)) δ = some r), fun _ _ h => h, fun x H2 y => ?_⟩
  obtain ⟨s2, hx⟩ := hy x H2 y
  refine ⟨U2, A0, δ, d, δ1, R2.same s2, hx, e3, fun σ' R' => ?_⟩
  have F3 := F2.grow s2
  have G3 := G2.grow s2
  refine ⟨wo H2 U2, U2, A0, δ1, q, R', F3.here, e5, ?_⟩
  cases q with
  | nx δ' => exact fun U' σ' H' R' F' => ⟨_, by lia, rfl, hlt, U', δ', R', F3.trans F', G3.trans F', e6⟩
  | ct δ' => exact fun U' σ' H' R' F' => ⟨_, by lia, rfl, hlt, U', δ', R', F3.trans F', G3.trans F', e6⟩
  | bk δ' => cases e6; exact fun U' σ' H' R' F' => P U' σ' H' R' (F3.trans F')
  | rt d => cases e6; exact ⟨fun v H' h => P.1 v H' (h.trans F3), fun c H' e s => P.2 c H' e (F3.overW s)⟩
 ·have hi : i = ds.length := by lia
  subst hi
  rw [List.drop_length, forD] at ef
  cases ef
  exact .inl ⟨hstop rfl, P U2 σ H R2 F2⟩
end
noncomputable def rangeD (lo : Int) (n : Nat) : List D := (List.range n).map fun k : Nat => PyData.int (lo + k)
theorem rangeD_get {lo : Int} {n i : Nat} {d : D} (h : (rangeD lo n)[i]? = some d) : i < n /\ d = .int (lo + i) := by
 unfold rangeD at h
 rw [List.getElem?_map] at h
 cases e : (List.range n)[i]? with
 | none => rw [e] at h; cases h
 | some k =>
   rw [e] at h; cases h
   have hi := (List.getElem?_eq_some_iff.mp e).1
   rw [List.length_range] at hi
   rw [List.getElem?_range hi] at e
   cases e
   exact ⟨hi, rfl⟩
theorem rangeD_len {lo : Int} {n : Nat} : (rangeD lo n).length = n := by unfold rangeD; simp
theorem walks_range {K : PySem.W.Frag} {A : List Addr} {H1 : Hp} {lo : Int} {n : Nat} : Walks K A H1 (Itr lo n) (rangeD lo n) := by
 intro A' i H _ _
 refine ⟨fun d hd => ?_, fun hi => ?_⟩
 ·obtain ⟨hi, rfl⟩ := rangeD_get hd
  refine ⟨hi, fun x H2 y => ?_⟩
  obtain ⟨rfl, rfl⟩ := y
  exact ⟨Same.refl _, .int _⟩
 ·rw [rangeD_len] at hi
  subst hi
  exact Nat.le_refl _
noncomputable def gRange1 (g : DS -> Option (List D)) : DS -> Option (List D) := fun δ => (g δ).bind fun | [.int j] => if -(2 ^ 62) <= j /\ j < 2 ^ 62 then some (rangeD 0 j.toNat) else none | _ => none
noncomputable def gItems (g : DS -> Option D) : DS -> Option (List D) := fun δ => (g δ).bind fun | .list l => some l | .tuple l => some l | _ => none
section
variable {X : Cx} {O : List Nat} {tg a b e : Expr} {gr : DS -> Option (List D)} {ge : DS -> Option D} {pos p : Pos}
set_option tactic.hygienic true in
theorem pd_range1 (hm : X.mg "range" = none) (ha : PA X [a] (tAs X.K O gr)) (hg : Gl X "range" := by rfl) (hs : starEach [a] X.env = [(false, eval a X.env)] := by rfl) : PI X tg (.Call (.Name "range" p) [a] [] pos) (tI X.K O (gRange1 gr)) := (pi_range1 hg hm ha hs).mono fun σ H Q hh => hh.e fun U A0 δ ds R ed q => by
 obtain ⟨x, e1, e2⟩ := bind1 ed
 refine ⟨U, A0, δ, x, R, e1, fun vs H' s h => ?_⟩
 split at e2
 ·split at e2
  ·rename_i hz
   cases e2
   cases h with
   | cons h1 h2 =>
     cases h2
     cases h1
     exact ⟨_, rfl, hz.1, hz.2, q _ H' s walks_range⟩
  ·cases e2
 ·cases e2
noncomputable def iSeq (K : PySem.W.Frag) (tl : TE) : TI := fun σ H R => tl σ H fun x H1 => (∃ a, x = .ref a /\ (∃ xs, SqL K H1 a xs) /\ R (Itl K a) H1) \/ ∃ a, x = .ref a /\ (∃ xs, SqT K H1 a xs) /\ R (Itt K a) H1
theorem pi_seq {l : Expr} {tl : TE} (hl : PE X l tl) : PI X tg l (iSeq X.K tl) := by
 intro pins s σ H R I h
 refine thn5 (hl pins s σ H _ I h) fun v s1 x H1 I1 r1 q1 => ?_
 rcases q1 with ⟨a, e, ⟨xs, hq⟩, q⟩ | ⟨a, e, ⟨xs, hq⟩, q⟩
 ·subst e
  cases r1
  obtain ⟨its, rv, p, hz⟩ := I1.list hq
  refine wpAny_pyIter_list p.isList ?_
  refine ⟨s1.heap.objs.size, [s1.heap.objs.size], _, _, H1, rfl, I1.kept (t' := s1.toks) fun b o e => Heap.get?_push_of_some _ e, turn_list a _, ⟨_, Heap.get?_push_size _ rfl, rfl, rfl⟩, fun b hb => ?_, q⟩
  have e : b = s1.heap.objs.size := by simpa using hb
  subst e
  exact I1.fpOk (Nat.le_refl _) (I1.hok.fresh (Nat.le_refl _))
 ·subst e
  cases r1
  obtain ⟨its, rv, p, hz⟩ := I1.tuple hq
  refine wpAny_pyIter_tuple (show s1.heap.IsTuple a its.toArray from p) ?_
  refine ⟨s1.heap.objs.size, [s1.heap.objs.size], _, _, H1, rfl, I1.kept (t' := s1.toks) fun b o e => Heap.get?_push_of_some _ e, turn_tuple a _, ⟨_, Heap.get?_push_size _ rfl, rfl, rfl⟩, fun b hb => ?_, q⟩
  have e : b = s1.heap.objs.size := by simpa using hb
  subst e
  exact I1.fpOk (Nat.le_refl _) (I1.hok.fresh (Nat.le_refl _))
theorem pd_iseq (h : PE X e (tE X.K O ge)) : PI X tg e (tI X.K O (gItems ge)) := (pi_seq h).mono fun σ H Q hh => hh.e fun U A0 δ ds R ed q => by
 obtain ⟨x, e1, e2⟩ := bind1 ed
 cases x with
 | list l =>
   cases e2
   refine ⟨U, A0, δ, _, R, e1, fun v H' s h => ?_⟩
   cases h with
   | lst hq h =>
     refine .inl ⟨_, rfl, ⟨_, (hq.same wo_same).sq⟩, q _ H' s ?_⟩
     intro A' i H2 s2 _
     have hq2 := hq.same s2
     have h2 := h.same s2
     have hL : SqL X.K H2 _ _ := (hq2.same wo_same).sq
     refine ⟨fun d hd => ?_, fun hi => ⟨_, hL, by rw [h2.len]; lia⟩⟩
     obtain ⟨x, hx, hxd⟩ := h2.get hd
     refine ⟨⟨_, x, hL, hx⟩, fun y H3 hy => ?_⟩
     obtain ⟨rfl, hy⟩ := hy
     have := hy _ hL
     rw [hx] at this
     cases this
     exact ⟨Same.refl _, hxd⟩
 | tuple l =>
   cases e2
   refine ⟨U, A0, δ, _, R, e1, fun v H' s h => ?_⟩
   cases h with
   | tup hq h =>
     refine .inr ⟨_, rfl, ⟨_, (.inl (wo_same.tupT hq))⟩, q _ H' s ?_⟩
     intro A' i H2 s2 _
     have hq2 := s2.tupT hq
     have h2 := h.same s2
     have hL : SqT X.K H2 _ _ := .inl (wo_same.tupT hq2)
     refine ⟨fun d hd => ?_, fun hi => ⟨_, hL, by rw [h2.len]; lia⟩⟩
     obtain ⟨x, hx, hxd⟩ := h2.get hd
     refine ⟨⟨_, x, hL, hx⟩, fun y H3 hy => ?_⟩
     obtain ⟨rfl, hy⟩ := hy
     have := hy _ hL
     rw [hx] at this
     cases this
     exact ⟨Same.refl _, hxd⟩
 | _ => cases e2
end
noncomputable def captD (ix : List Nat) (δ : DS) : DS := ix.map fun j => (δ[j]?).join
noncomputable def mapD (f : D -> Option D) : List D -> Option (List D)
 | [] => some []
 | d :: ds => (f d).bind fun x => (mapD f ds).bind fun xs => some (x :: xs)
noncomputable def gComp (gi : DS -> Option (List D)) (ix : List Nat) (ge : DS -> Option D) : DS -> Option (List D) := fun δ => (gi δ).bind fun ds => if ds.length <= 100000 then mapD (fun d => ge (some d :: captD ix δ)) ds else none
section
variable {X : Cx} {O : List Nat} {fr : Fr} {scope : Scope} {x : Str} {elt iter : Expr} {px pos : Pos} {gi : DS -> Option (List D)} {ge : DS -> Option D}
theorem PS.nE {st : Stmt} {i : Nat} {g : DS -> Option (List D)} (h : PS X st (tAsg (tN X.K O g) (gName i))) : PS X st (tAsg (tE X.K O (gLst g)) (gName i)) := h.mono fun _ _ _ h => tN_tE h
end
noncomputable def gOut : Res -> Option D
 | .rt d => some d
 | .nx _ => some .none
 | _ => none
noncomputable def gOutN : Res -> Option (List D)
 | .rt (.list l) => some l
 | _ => none
noncomputable def gDef (n : Nat) (g : DS -> Option Res) : List D -> Option D := fun ds => (g (ds.map some ++ List.replicate (n - ds.length) none)).bind gOut
noncomputable def gDefN (n : Nat) (g : DS -> Option Res) : List D -> Option (List D) := fun ds => (g (ds.map some ++ List.replicate (n - ds.length) none)).bind gOutN
theorem Rel.start {K : PySem.W.Frag} {O : List Nat} {A : List Addr} {N : List Str} {vs : List V} {ds : List D} {H : Hp} (al : Ls A H) (h : HDs K (wo H A) vs ds) (hO : ∀ i ∈ O, ds.length <= i) : Rel K O [] A (start N vs) (ds.map some ++ List.replicate (N.length - ds.length) none) H := by
 have hl := h.len
 have none_of : ∀ (i : Nat) d, ds.length <= i -> (ds.map some ++ List.replicate (N.length - ds.length) none)[i]? = some (some d) -> False := by
  intro i d hi q
  rw [List.getElem?_append_right (by simpa using hi)] at q
  have := List.mem_of_getElem? q
  rw [List.mem_replicate] at this
  exact absurd this.2 (by simp)
 exact {
  len := by unfold L2.start; simp [hl]
  fz := fun i d _ q => by
   by_cases hi : i < ds.length
   ·rw [List.getElem?_append_left (by simpa using hi), List.getElem?_map, List.getElem?_eq_getElem hi] at q
    simp only [Option.map_some, Option.some.injEq] at q
    obtain ⟨v, e, hv⟩ := h.get (List.getElem?_eq_getElem hi)
    refine ⟨v, ?_, ?_⟩
    ·unfold L2.start
     rw [List.getElem?_append_left (by rw [List.length_map]; lia), List.getElem?_map, e]; rfl
    ·rw [List.nil_append, <- q]; exact hv
   ·exact (none_of i d (by lia) q).elim
  ow := fun i d hi q => (none_of i d (hO i hi) q).elim
  inj := fun i j d e l hi _ _ q => (none_of i d (hO i hi) q).elim
  al := al }
theorem Fx.start {A : List Addr} {H : Hp} (al : Ls A H) : Fx H A [] H := ⟨Same.refl H, fun _ h => by simp at h, al⟩
section
variable {P : Program} {w : World} {K : PySem.W.Frag} {mg : Str -> Option Value} {base : Heap} {x : Str} {st : Stmt} {N ps : List Str} {k : Nat}
theorem pd_def (O : List Nat) (g : DS -> Option Res) (F : Df K mg x st ps) (S : FnScope N ps (defScope st))
  (body : ∀ (f : Addr) (cdv : Value) (A : Around) (outer : List Env) (s : Shared) (H : Hp) (E : XK), Room k (A.deeper (envOfC x (defScope st) s.heap.objs.size f cdv)) -> PSs (cxOf CX0 P w K mg base N x (defScope st) f cdv A outer s H E).nox (defBody st) (tS K O (false, fun _ _ => True) g))
  (hO : ∀ i ∈ O, ps.length <= i := by decide) {n m : Nat} (hN : N.length = n := by rfl) (hP : ps.length = m := by rfl) : Dn P w K mg base (k + 1) x ps (spD K m (gDef n g)) := by
 subst hN hP
 refine F.ok S (fun vs H Q E h => h.1) (fun f cdv A outer s H vs Q E hr h => ⟨_, body f cdv A outer s H E hr, ?_⟩)
 obtain ⟨hn, A', ds, d, al, hd, e, q⟩ := h
 obtain ⟨r, e1, e2⟩ := bind1 e
 refine ⟨H, [], A', _, r, Rel.start al hd (fun i hi => by have := hO i hi; rw [<- hd.len, hn]; exact this), Fx.start al, e1, ?_⟩
 cases r with
 | nx δ => cases e2; exact fun U σ H' R F' => q .non H' F'.same .non
 | rt d => cases e2; exact ⟨fun v H' h => by unfold RetR at h; rw [if_neg Bool.false_ne_true] at h; exact q v H' h.1 h.2, fun _ _ _ _ => trivial⟩
 | bk _ => cases e2
 | ct _ => cases e2
theorem pd_fn {f : Addr} {fd : FuncData} (O : List Nat) (g : DS -> Option Res) (F : Fun K x x st f fd) (S : FnScope N ps (defScope st))
  (body : ∀ (f : Addr) (cdv : Value) (A : Around) (outer : List Env) (s : Shared) (H : Hp) (E : XK), Room k (A.deeper (envOfC x (defScope st) s.heap.objs.size f cdv)) -> PSs (cxOf CX0 P w K mg base N x (defScope st) f cdv A outer s H E).nox (defBody st) (tS K O (false, fun _ _ => True) g))
  (hO : ∀ i ∈ O, ps.length <= i := by decide) {n m : Nat} (hN : N.length = n := by rfl) (hP : ps.length = m := by rfl) : FnOk P w K mg base CX0 (k + 1) f fd ps (spD K m (gDef n g)) := by
 subst hN hP
 refine F.ok S (fun vs H Q E h => h.1) (fun cdv A outer s H vs Q E hr h => ⟨_, body f cdv A outer s H E hr, ?_⟩)
 obtain ⟨hn, A', ds, d, al, hd, e, q⟩ := h
 obtain ⟨r, e1, e2⟩ := bind1 e
 refine ⟨H, [], A', _, r, Rel.start al hd (fun i hi => by have := hO i hi; rw [<- hd.len, hn]; exact this), Fx.start al, e1, ?_⟩
 cases r with
 | nx δ => cases e2; exact fun U σ H' R F' => q .non H' F'.same .non
 | rt d => cases e2; exact ⟨fun v H' h => by unfold RetR at h; rw [if_neg Bool.false_ne_true] at h; exact q v H' h.1 h.2, fun _ _ _ _ => trivial⟩
 | bk _ => cases e2
 | ct _ => cases e2
theorem pd_defN (O : List Nat) (g : DS -> Option Res) (F : Df K mg x st ps) (S : FnScope N ps (defScope st))
  (body : ∀ (f : Addr) (cdv : Value) (A : Around) (outer : List Env) (s : Shared) (H : Hp) (E : XK), Room k (A.deeper (envOfC x (defScope st) s.heap.objs.size f cdv)) -> PSs (cxOf CX0 P w K mg base N x (defScope st) f cdv A outer s H E).nox (defBody st) (tS K O (true, fun _ _ => True) g))
  (hO : ∀ i ∈ O, ps.length <= i := by decide) {n m : Nat} (hN : N.length = n := by rfl) (hP : ps.length = m := by rfl) : Dn P w K mg base (k + 1) x ps (spN K m (gDefN n g)) := by
 subst hN hP
 refine F.ok S (fun vs H Q E h => h.1) (fun f cdv A outer s H vs Q E hr h => ⟨_, body f cdv A outer s H E hr, ?_⟩)
 obtain ⟨hn, A', ds, d, al, hd, e, q⟩ := h
 obtain ⟨r, e1, e2⟩ := bind1 e
 refine ⟨H, [], A', _, r, Rel.start al hd (fun i hi => by have := hO i hi; rw [<- hd.len, hn]; exact this), Fx.start al, e1, ?_⟩
 cases r with
 | rt d' =>
   refine ⟨fun v H' h => ?_, fun _ _ _ _ => trivial⟩
   unfold RetR at h
   rw [if_pos rfl] at h
   obtain ⟨r, ob, rfl, a, b, c, f⟩ := h
   cases f with
   | lst f => cases e2; exact q r _ H' a b c f
   | dct _ _ => cases e2
 | nx δ => cases e2
 | bk _ => cases e2
 | ct _ => cases e2
end
end L2
namespace L2
open PySem PySem.Spec PyProof.Rows
noncomputable def gChain (f f' : D -> D -> Option D) (a b c : DS -> Option D) : DS -> Option D := fun δ => (a δ).bind fun x => (b δ).bind fun y => (f x y).bind fun z => match z with
 | .bool true => (c δ).bind fun w => f' y w
 | .bool false => some (.bool false)
 | _ => none
section
variable {X : Cx} {O : List Nat} {a b c : Expr} {ga gb gc : DS -> Option D} {pos : Pos} {r r' : R2}
theorem tChain_E {K : PySem.W.Frag} {f f' : D -> D -> Option D} (imp : Imp2 K r f) (imp' : Imp2 K r' f') {σ : St} {H : Hp} {Q : VK} : tE K O (gChain f f' ga gb gc) σ H Q -> tChain r r' (tSh K O ga) (tSh K O gb) (tSh K O gc) σ H Q := by
 rintro ⟨U, A0, δ, d, R, ed, q⟩
 obtain ⟨x, e1, ed⟩ := bind1 ed
 obtain ⟨y, e2, ed⟩ := bind1 ed
 obtain ⟨z, e3, ed⟩ := bind1 ed
 refine ⟨U, A0, δ, x, R, e1, fun v1 H1 s1 h1 => ⟨U, A0, δ, y, R.same s1, e2, fun v2 H2 s2 h2 => imp _ H2 v1 v2 x y z _ (R.same (s1.trans s2)).al (h1.same s2) h2 e3 fun v3 H3 s3 h3 => ?_⟩⟩
 cases z with
 | bool k =>
   cases h3
   refine ⟨k, rfl, ?_⟩
   cases k with
   | true =>
     obtain ⟨w, e4, e5⟩ := bind1 ed
     first
      | rw [if_pos rfl]
      | skip
     exact ⟨U, A0, δ, w, R.same ((s1.trans s2).trans s3), e4, fun v4 H4 s4 h4 => imp' _ H4 v2 v4 y w d Q (R.same (((s1.trans s2).trans s3).trans s4)).al (h2.same (s3.trans s4)) h4 e5 fun v H' s h => q v H' ((((s1.trans s2).trans s3).trans s4).trans s) h⟩
   | false =>
     cases ed
     first
      | rw [if_neg Bool.false_ne_true]
      | skip
     exact q _ H3 ((s1.trans s2).trans s3) (.bl _)
 | _ => cases ed
theorem pd_tchain {op op' : CmpOp} {f f' : D -> D -> Option D} (ho : OpR X (compareOp op) r) (imp : Imp2 X.K r f) (ho' : OpR X (compareOp op') r') (imp' : Imp2 X.K r' f') (ha : PE X a (tSh X.K O ga)) (hb : PE X b (tSh X.K O gb)) (hc : PE X c (tSh X.K O gc)) (hm : lastMarks [op, op'] [b, c] = false := by with_unfolding_all rfl) : PT X (.Compare a [op, op'] [b, c] pos) (tT X.K O (gB (gChain f f' ga gb gc))) := (pt_chain ho ho' ha hb hc hm).mono fun _ _ _ => tT_of fun _ _ _ => tChain_E imp imp'
end
section
variable {X : Cx} {O : List Nat} {fr : Fr} {st : Stmt} {gr : DS -> Option (List D)} {i j : Nat}
end
noncomputable def dV : D -> V
 | .none => .non
 | .bool b => .bl b
 | .int i => .int i
 | .str x => .str x
 | _ => .non
section
variable {X : Cx}
end
section
variable {X : Cx} {O : List Nat} {fr : Fr} {st : Stmt} {ge gx : DS -> Option D} {gl : DS -> Option (List D)} {i : Nat}
noncomputable def gReverse (i : Nat) : DS -> Option Res := fun δ => (gVar i δ).bind fun x => match x with
 | .list ds => some (.nx (δ.set i (some (.list ds.reverse))))
 | _ => none
noncomputable def gExt (i : Nat) (g : DS -> Option (List D)) : DS -> Option Res := fun δ => (gVar i δ).bind fun x => (g δ).bind fun zs => match x with
 | .list ds => if ds.length + zs.length <= 100000 then some (.nx (δ.set i (some (.list (ds ++ zs))))) else none
 | _ => none
theorem pd_reverse (h : PS X st (tDrop (tBM0 X.K "list" rReverse (tVar i)))) (hi : i ∈ O := by decide) : PS X st (tS X.K O fr (gReverse i)) := h.mono fun E σ H hh => hh.e fun H0 U A0 δ r R F ed P => by
 obtain ⟨x, e1, e2⟩ := bind1 ed
 rcases R.owL i x hi (join_some e1) with ⟨l, ys, ds, hl, rfl, hU, h1, h2⟩ | ⟨kds, rfl⟩
 rotate_left
 ·(exfalso; simp_all; done)
 cases e2
 refine ⟨.ref l, hl, .inl ⟨rfl, ys, SqL.of h1⟩, l, ys, rfl, rfl, h1, ?_⟩
 exact P U σ _ (R.put hi hl hU h2.rev ⟨_, join_some e1⟩) (F.put hU _)
set_option tactic.hygienic true in
theorem pd_extend (h : PS X st (tDrop (tBM X.K "list" rExtend (tVar i) (tCons (tN X.K O gl) tNil)))) (hi : i ∈ O := by decide) : PS X st (tS X.K O fr (gExt i gl)) := h.mono fun E σ H hh => hh.e fun H0 U A0 δ r R F ed P => by
 obtain ⟨x, e1, e2⟩ := bind1 ed
 obtain ⟨zs, e3, e4⟩ := bind1 e2
 rcases R.owL i x hi (join_some e1) with ⟨l, ys, ds, hl, rfl, hU, h1, h2⟩ | ⟨kds, rfl⟩
 rotate_left
 ·(exfalso; simp_all; done)
 simp only at e4
 split at e4
 ·rename_i hz
  cases e4
  refine ⟨.ref l, hl, .inl ⟨rfl, ys, SqL.of h1⟩, U, A0, δ, zs, R, e3, fun p ws H' s hp hp1 hp2 => ?_⟩
  have h1' := s _ _ h1
  have h2' := h2.same (wo_mono (A := U ++ A0) s)
  have hp3 := hp2.same (wo_sub (A' := U ++ A0) fun a ha => List.mem_cons_of_mem _ ha)
  have hlen := h2.len
  have hlen2 := hp2.len
  refine ⟨l, p, ys, ws, rfl, rfl, h1', hp1, small (by lia), ?_⟩
  exact P U σ _ ((R.same s).put hi hl hU (h2'.app hp3) ⟨_, join_some e1⟩) ((F.grow s).put hU _)
 ·cases e4
end
end L2
namespace L2
open PySem PySem.Spec PyProof.Rows
section
variable {X : Cx} {O : List Nat} {tg a : Expr} {ge : DS -> Option D} {p pos : Pos}
end
end L2
namespace L2
open PySem PySem.Spec PyProof.Rows
section
variable {X : Cx} {pins : List (Addr × Obj)} {σ : St} {H : Hp} {s : Shared} {h' : Heap}
theorem Inv.turnedL {t' : Nat} {ch : List Addr} (I : Inv X pins σ H s) (k : ∀ b o, b ∉ ch -> s.heap.get? b = some o -> h'.get? b = some o) (hf : ∀ b ∈ ch, FpOk X pins H b) : Inv X pins σ H { s with heap := h', toks := t' } := by
 have nit : ∀ b u, H b = some u -> b ∉ ch := fun b u e z => by rw [(hf b z).1] at e; cases e
 refine I.step (g' := s.gens) (d' := s.drawn) (ch := ch) (fun b hb => ?_) (fun b o _ _ hc e _ => k b o hc e) (fun b o _ _ hc e _ => ⟨o.slots, k b o hc e⟩) (fun _ _ _ _ n => n)
  (fun b o hc e => ⟨o, k b o hc e⟩) (fun _ _ e => e) (fun _ _ _ e => e) (fun b ps e => ⟨#[], by rw [e]; simp⟩) (fun m hm => ?_) (fun b u e => ?_) I.bare
 ·obtain ⟨_, a, _, b', c, d⟩ := hf b hb
  exact ⟨b', a, c, d⟩
 ·obtain ⟨o, es, ep, ho, r⟩ := hm
  exact ⟨o, es, ep, k _ o (fun z => (hf _ z).2.1 rfl) ho, r⟩
 ·refine (I.hok b u e).stay (fun c v hc q => k c v ?_ q) (fun _ q => q) fun _ _ q => q
  rcases hc with z | z
  ·rw [z]; exact nit b u e
  ·exact nit c _ z
theorem Inv.trackT {D : Addr} {ys : List V} {its : List Value} (I : Inv X pins σ H s) (hD : H D = none) (hs : X.s₀.heap.objs.size <= D) (hl : D ≠ X.env.locals) (hc : ∀ x c, X.env.cells.lookup x = some c -> c ≠ D)
  (hp : ∀ p ∈ X.pn ++ pins, p.1 ≠ D) (e : IsTup s.heap D its.toArray) (r : Vals ys its) (hz : ys.length <= sizeLine) : Inv X pins σ (upd H D (.tup ys)) s := by
 have h := I.step (H' := upd H D (.tup ys)) (h' := s.heap) (g' := s.gens) (t' := s.toks) (d' := s.drawn) (ch := [D]) (fun b hb => by
   have e : b = D := by simpa using hb
   subst e
   exact ⟨.inr hs, hl, hc, hp⟩)
  (fun b o _ _ _ q _ => q) (fun b o _ _ _ q _ => ⟨o.slots, q⟩) (fun b o hb _ q => by rw [upd_ne (by simpa using hb)]; exact q) (fun b o _ q => ⟨o, q⟩)
  (fun b xs q => by rw [upd_ne (ne_of_none q hD)]; exact q) (fun b o u q => by rw [upd_ne (ne_of_none q hD)]; exact q) (fun b ps q => ⟨#[], by rw [upd_ne (ne_of_none q hD), Array.append_empty]; exact q⟩) (fun m hm => hm) (fun b u q => ?_) I.bare
 ·exact h
 ·by_cases hb : b = D
  ·subst hb
   rw [upd_same] at q; cases q
   exact ⟨hz, its, r, e⟩
  ·rw [upd_ne hb] at q
   exact (I.hok b u q).stay (fun _ _ _ z => z) (fun c z => by rw [upd_ne (ne_of_none z hD)]; exact z) fun c xs z => z.new hD
end
noncomputable def Ite (K : PySem.W.Frag) (a : Addr) : It :=
 ⟨fun i H => ∃ xs x, SqL K H a xs /\ xs[i]? = some x, fun i H x H' => ∃ p v, H p = none /\ x = .ref p /\ H' = upd H p (.tup [.int i, v]) /\ ∀ xs, SqL K H a xs -> xs[i]? = some v, fun i H => ∃ xs, SqL K H a xs /\ xs.length <= i⟩
theorem turn_enum {P : Program} {w : World} {K : PySem.W.Frag} {es : List Expr} {kk} {tpos : Pos} (a e it : Addr) (hne : e ≠ it) : Turn P w K (.Tuple es kk tpos) (Ite K a) [e, it] e (fun i h => (∃ old, IsEnum h e it i old) /\ h.IsListIter it a i) where
 mem := by simp
 obj := fun i h st b hb => by
  obtain ⟨⟨old, he⟩, o, ho, c, d⟩ := st
  rcases List.mem_cons.mp hb with z | z
  ·subst z; exact ⟨_, he, fun v z => by cases z⟩
  ·have z : b = it := by simpa using z
   subst z; exact ⟨o, ho, fun v z => by rw [d] at z; cases z⟩
 keep := fun i h h' st k => by
  obtain ⟨⟨old, he⟩, st2⟩ := st
  exact ⟨⟨old, k e (by simp) _ he⟩, st2.at fun o eo => k it (by simp) o eo⟩
 item := by
  intro X hP hw hK hc i pins s σ H E I hf st hg
  subst hP hw hK
  obtain ⟨xs, x, hq, hx⟩ := hg
  obtain ⟨its, rv, p, hz⟩ := I.list hq
  obtain ⟨u, hu, ru⟩ := rv.get hx
  obtain ⟨⟨old, he⟩, st2⟩ := st
  refine wpAny_pyNext_enum_item he st2 p.isList (x := u) (by simpa using hu) hne fun h1 heo hit1 ht1 hz1 hk1 => ?_
  refine ⟨_, rfl, wpAny_letOwnedTupleGo_enum heo fun h2 he2 hs2 => ?_⟩
  replace hs2 : Heap.SameBut e h1 h2 := hs2
  have heH : e < s.heap.objs.size := Heap.lt_size he
  have I1 : Inv X pins σ H { s with heap := h2, toks := s.toks + 1 } := I.turnedL (t' := s.toks + 1) (ch := [e, it]) (fun b o hb eo => by
   simp only [List.mem_cons, List.not_mem_nil, or_false, not_or] at hb
   exact (hs2.2 b hb.1).trans (hk1 b o hb.1 hb.2 eo)) hf
  have ht2 : IsTup h2 s.heap.objs.size [Value.int i s.toks, u].toArray := ⟨_, (hs2.2 _ (Nat.ne_of_gt heH)).trans ht1, rfl, _, rfl⟩
  have hfr : H s.heap.objs.size = none := I.hok.fresh (Nat.le_refl _)
  have fo := I.fpOk (H' := H) (Nat.le_refl _) hfr
  have I2 : Inv X pins σ (upd H s.heap.objs.size (.tup [.int i, x])) { s with heap := h2, toks := s.toks + 1 } := I1.trackT hfr (Nat.le_trans I.sz (Nat.le_refl _)) fo.2.1 fo.2.2.2.2.1 fo.2.2.2.2.2 ht2 (.cons ⟨_, rfl⟩ (.cons ru .nil)) (by show 2 <= sizeLine; decide)
  refine ⟨.ref s.heap.objs.size, _, I2, rfl, ⟨_, x, hfr, rfl, rfl, fun ys hy => by rw [I.list_inj hy hq]; exact hx⟩, ⟨⟨u, he2⟩, hit1.extBut hs2.extBut (Ne.symm hne)⟩, fun b hb => ?_⟩
  have hlt : b < s.heap.objs.size := by
   rcases List.mem_cons.mp hb with z | z
   ·subst z; exact heH
   ·have z : b = it := by simpa using z
    subst z
    obtain ⟨o, ho, _⟩ := st2
    exact Heap.lt_size ho
  rw [upd_ne (Nat.ne_of_lt hlt)]
  exact (hf b hb).1
 done := by
  intro X hP hw hK hc i pins s σ H E I hf st hg
  subst hP hw hK
  obtain ⟨xs, hq, hx⟩ := hg
  obtain ⟨its, rv, p, hz⟩ := I.list hq
  obtain ⟨⟨old, he⟩, st2⟩ := st
  have hl := rv.length
  refine wpAny_pyNext_enum_end (I.ok.hd hc) he st2 p.isList (by simp; lia) fun h1 eb => ⟨rfl, ?_⟩
  exact I.turnedL (t' := s.toks) (ch := [e, it]) (fun b o hb eo => eb b o (fun z => hb (by simp [z])) eo) hf
 self := fun _ _ _ _ _ st h => by
  obtain ⟨⟨old, he⟩, _⟩ := st
  exact wpAny_pyIter_enum he h
theorem bt_enumerate : bootBuiltins "enumerate" = some (.type "enumerate") := by decide +kernel
noncomputable def enumD (l : List D) : List D := l.zipIdx.map fun p => .tuple [.int (p.2 : Nat), p.1]
theorem enumD_get {l : List D} {i : Nat} {d : D} (h : (enumD l)[i]? = some d) : ∃ x, l[i]? = some x /\ d = .tuple [.int (i : Nat), x] := by
 unfold enumD at h
 rw [List.getElem?_map, List.getElem?_zipIdx] at h
 cases e : l[i]? with
 | none => rw [e] at h; cases h
 | some x => rw [e] at h; simp at h; exact ⟨x, rfl, h.symm⟩
theorem enumD_len {l : List D} : (enumD l).length = l.length := by unfold enumD; simp
section
variable {X : Cx} {O : List Nat} {a : Expr} {ge : DS -> Option D} {p pos : Pos} {es : List Expr} {kk} {tpos : Pos}
noncomputable def iEnum (K : PySem.W.Frag) (ta : TA) : TI := fun σ H R => ta σ H fun vs H1 => ∃ a xs, vs = [.ref a] /\ SqL K H1 a xs /\ R (Ite K a) H1
theorem pi_enum {ta : TA} (hg : Gl X "enumerate") (hm : X.mg "enumerate" = none) (ha : PA X [a] ta) (hs : starEach [a] X.env = [(false, eval a X.env)] := by rfl) : PI X (.Tuple es kk tpos) (.Call (.Name "enumerate" p) [a] [] pos) (iEnum X.K ta) := by
 intro pins s σ H R I h
 refine Call_ (ld_blt I hg hm bt_enumerate (PyProof.Rows.callWith_type1 (thn5 (ha pos pins s σ H _ I h) fun us s1 vs H1 I1 r1 q1 => ?_) hs rfl))
 obtain ⟨b, xs, e, hq, q⟩ := q1
 subst e
 obtain ⟨u, rfl, ru⟩ := vals1 r1
 cases ru
 obtain ⟨its, rv, pl, hz⟩ := I1.list hq
 refine call_enumerate_list pl.isList fun h' he hit hsz hk => ?_
 refine wpAny_pyIter_enum he ?_
 refine ⟨s1.heap.objs.size + 1, [s1.heap.objs.size + 1, s1.heap.objs.size], _, _, H1, rfl, I1.kept (t' := s1.toks) hk, turn_enum b _ s1.heap.objs.size (Nat.succ_ne_self _), ⟨⟨_, he⟩, hit⟩, fun b hb => ?_, q⟩
 have hle : s1.heap.objs.size <= b := by
  simp only [List.mem_cons, List.not_mem_nil, or_false] at hb
  rcases hb with z | z
  ·rw [z]; exact Nat.le_succ _
  ·rw [z]; exact Nat.le_refl _
 exact I1.fpOk hle (I1.hok.fresh hle)
noncomputable def gEnumerate (g : DS -> Option D) : DS -> Option (List D) := fun δ => (g δ).bind fun | .list l => some (enumD l) | _ => none
theorem pd_enumerate (hm : X.mg "enumerate" = none) (ha : PE X a (tE X.K O ge)) (hg : Gl X "enumerate" := by rfl) (hs : starEach [a] X.env = [(false, eval a X.env)] := by rfl) (hs0 : starEach ([] : List Expr) X.env = [] := by rfl) : PI X (.Tuple es kk tpos) (.Call (.Name "enumerate" p) [a] [] pos) (tI X.K O (gEnumerate ge)) :=
 (pi_enum hg hm (pa_cons ha pa_nil (by rw [hs, hs0])) hs).mono fun σ H Q hh => hh.e fun U A0 δ ds R ed q => by
  obtain ⟨x, e1, e2⟩ := bind1 ed
  cases x with
  | list l =>
    cases e2
    refine ⟨U, A0, δ, _, R, e1, fun v H' s h => ?_⟩
    cases h with
    | lst hq h =>
      refine ⟨_, _, rfl, (hq.same wo_same).sq, q _ H' s ?_⟩
      intro A' i H2 s2 al
      have h2 := h.same s2
      have hL : SqL X.K H2 _ _ := ((hq.same s2).same wo_same).sq
      refine ⟨fun d hd => ?_, fun hi => ⟨_, hL, by rw [hi, enumD_len, h2.len]; exact Nat.le_refl _⟩⟩
      obtain ⟨y, hy, rfl⟩ := enumD_get hd
      obtain ⟨v, hv, hvd⟩ := h2.get hy
      refine ⟨⟨_, v, hL, hv⟩, fun z H3 hz => ?_⟩
      obtain ⟨p, v', hp, rfl, rfl, hv'⟩ := hz
      have := hv' _ hL
      rw [hv] at this
      cases this
      exact ⟨same_new hp _, HD.newT al hp (.cons (.int _) (.cons hvd .nil))⟩
  | _ => cases e2
end
noncomputable def WalksS (K : PySem.W.Frag) (A : List Addr) (H1 : Hp) (J : It) (ds : List D) : Prop := ∀ (i : Nat) (H : Hp), Same H1 H ->
 (∀ d, ds[i]? = some d -> J.go i H /\ ∀ x H2, J.yld i H x H2 -> Same H H2 /\ HD K (wo H2 A) x d) /\ (i = ds.length -> J.stop i H)
noncomputable def tIc (K : PySem.W.Frag) (O : List Nat) (g : DS -> Option (List D)) : TI := fun σ H R => ∃ U A0 δ ds, Rel K O U A0 σ δ H /\ g δ = some ds /\ ∀ J H1, Same H H1 -> WalksS K (U ++ A0) H1 J ds -> R J H1
theorem tIc.e {K : PySem.W.Frag} {O : List Nat} {g : DS -> Option (List D)}  {σ : _} {H : _} {R : _} {GG : Prop} (hh : tIc K O g σ H R) (kk : ∀ U A0 δ ds, (Rel K O U A0 σ δ H) -> (g δ = some ds) -> (∀ J H1, Same H H1 -> WalksS K (U ++ A0) H1 J ds -> R J H1) -> GG) : GG := by obtain ⟨U, A0, δ, ds, x0, x1, x2⟩ := hh; exact kk U A0 δ ds x0 x1 x2
section
variable {X : Cx} {O : List Nat} {tg e : Expr} {gi : DS -> Option (List D)} {ge : DS -> Option D} {pos : Pos}
theorem PI.c (h : PI X tg e (tI X.K O gi)) : PI X tg e (tIc X.K O gi) := h.mono fun σ H Q hh => hh.e fun U A0 δ ds R ed q => ⟨U, A0, δ, ds, R, ed, fun J H1 s hw => q J H1 s fun i H2 s2 => hw (U ++ A0) i H2 (wo_mono s2) ((R.same (s.trans s2)).al)⟩
theorem pd_iown (h : PE X e (tSh X.K O ge)) : PI X tg e (tIc X.K O (gItems ge)) := (pi_seq h).mono fun σ H Q hh => hh.e fun U A0 δ ds R ed q => by
 obtain ⟨x, e1, e2⟩ := bind1 ed
 cases x with
 | list l =>
   cases e2
   refine ⟨U, A0, δ, _, R, e1, fun v H' s h => ?_⟩
   obtain ⟨p, xs, rfl, h1, h2⟩ := h.list
   refine .inl ⟨_, rfl, ⟨_, h1.sq⟩, q _ H' s ?_⟩
   intro i H2 s2
   have h2' := h2.same (wo_mono (A := U ++ A0) s2)
   have hL : SqL X.K H2 _ _ := (h1.same s2).sq
   refine ⟨fun d hd => ?_, fun hi => ⟨_, hL, by rw [h2'.len]; lia⟩⟩
   obtain ⟨x, hx, hxd⟩ := h2'.get hd
   refine ⟨⟨_, x, hL, hx⟩, fun y H3 hy => ?_⟩
   obtain ⟨rfl, hy⟩ := hy
   have := hy _ hL
   rw [hx] at this
   cases this
   exact ⟨Same.refl _, hxd⟩
 | tuple l =>
   cases e2
   refine ⟨U, A0, δ, _, R, e1, fun v H' s h => ?_⟩
   obtain ⟨p, xs, rfl, h1, h2⟩ := h.tuple
   refine .inr ⟨_, rfl, ⟨_, h1⟩, q _ H' s ?_⟩
   intro i H2 s2
   have h2' := h2.same (wo_mono (A := U ++ A0) s2)
   have hL : SqT X.K H2 _ _ := s2.tup h1
   refine ⟨fun d hd => ?_, fun hi => ⟨_, hL, by rw [h2'.len]; lia⟩⟩
   obtain ⟨x, hx, hxd⟩ := h2'.get hd
   refine ⟨⟨_, x, hL, hx⟩, fun y H3 hy => ?_⟩
   obtain ⟨rfl, hy⟩ := hy
   have := hy _ hL
   rw [hx] at this
   cases this
   exact ⟨Same.refl _, hxd⟩
 | _ => cases e2
end
section
variable {X : Cx} {O : List Nat} {fr : Fr} {scope : Scope} {x : Str} {elt iter : Expr} {px pos : Pos} {gi : DS -> Option (List D)} {ge : DS -> Option D}
end
end L2
namespace LS
open PySem PySem.Spec PyProof.Rows
section
variable {prog : Program} {w : World} {A : Around} {E : Value -> Shared -> Prop} {s : Shared} {it t : Addr} {i : Nat} {items : Array Value}
theorem nextT_item {x : Value} {Q : Value -> Shared -> Prop} (hit : s.heap.IsTupleIter it t i) (ht : s.heap.IsTuple t items) (hx : items[i]? = some x)
  (hQ : ∀ h', h'.IsTupleIter it t (i + 1) -> Heap.SameBut it s.heap h' -> Q x { s with heap := h' }) : wpAny (model prog w) A (Builtin.SmallTypes.nextOf (.ref it)) Q E s := by
 obtain ⟨o, ho, hc, hd⟩ := id hit
 obtain ⟨ol, hol, _, nl, hdl⟩ := ht
 unfold Builtin.SmallTypes.nextOf
 refine wpAny_bind (wpAny_callSpecial?_slot (name := Str.ofString "__next__") hit.typeIs PySem.F.slot_tuple_iterator_next (wpAny_call_entry PySem.F.slot_tuple_iterator_next hit.typeIs PySem.F.entry_tuple_iterator_next ?_ (PySem.F.args_tuple_iterator_next_1 _)))
 show wpAny _ _ (field (.ref it) 0 >>= _) _ _ s
 refine wpAny_bind (wpAny_field ho hd (x := .ref t) rfl ?_)
 show wpAny _ _ (if (Value.ref t == Value.none) = true then _ else _) _ _ s
 rw [if_neg (show ¬ ((Value.ref t == Value.none) = true) from Bool.false_ne_true)]
 show wpAny _ _ (field (.ref it) 1 >>= _) _ _ s
 refine wpAny_bind (wpAny_field ho hd (x := .int i 0) rfl ?_)
 show wpAny _ _ (seqItems? (.ref t) >>= _) _ _ s
 refine wpAny_bind (wpAny_seqItems hol hdl ?_)
 simp only [Int.toNat_natCast, hx]
 refine wpAny_bind (wpAny_setField ho hd (by simp) (wpAny_pure ⟨x, rfl, wpAny_pure (hQ _ ?_ (Heap.SameBut.update ..))⟩))
 exact ⟨_, Heap.get?_update_self _ ho (Obj.isFreed_of_fields (Obj.data_mapFields hd _)), (Obj.cls_mapFields ..).trans hc, by rw [Obj.data_mapFields hd]; simp [rawInt]⟩
theorem nextT_end {Q : Value -> Shared -> Prop} (hh : A.handled = none) (hit : s.heap.IsTupleIter it t i) (ht : s.heap.IsTuple t items) (hx : items[i]? = none)
  (hE : ∀ h' e, Heap.ExtBut it s.heap h' -> (∃ o, h'.get? e = some o /\ o.cls = .type "StopIteration") -> E (.ref e) { s with heap := h' }) : wpAny (model prog w) A (Builtin.SmallTypes.nextOf (.ref it)) Q E s := by
 obtain ⟨o, ho, hc, hd⟩ := id hit
 obtain ⟨ol, hol, _, nl, hdl⟩ := ht
 unfold Builtin.SmallTypes.nextOf
 refine wpAny_bind (wpAny_callSpecial?_slot (name := Str.ofString "__next__") hit.typeIs PySem.F.slot_tuple_iterator_next (wpAny_call_entry PySem.F.slot_tuple_iterator_next hit.typeIs PySem.F.entry_tuple_iterator_next ?_ (PySem.F.args_tuple_iterator_next_1 _)))
 show wpAny _ _ (field (.ref it) 0 >>= _) _ _ s
 refine wpAny_bind (wpAny_field ho hd (x := .ref t) rfl ?_)
 show wpAny _ _ (if (Value.ref t == Value.none) = true then _ else _) _ _ s
 rw [if_neg (show ¬ ((Value.ref t == Value.none) = true) from Bool.false_ne_true)]
 show wpAny _ _ (field (.ref it) 1 >>= _) _ _ s
 refine wpAny_bind (wpAny_field ho hd (x := .int i 0) rfl ?_)
 show wpAny _ _ (seqItems? (.ref t) >>= _) _ _ s
 refine wpAny_bind (wpAny_seqItems hol hdl ?_)
 simp only [Int.toNat_natCast, hx]
 refine wpAny_bind (wpAny_rule (wpAny_bind (wpAny_setField ho hd (by simp) ?_)))
 show wpAny _ _ (newExc (.type "StopIteration") [] >>= _) _ _ _
 refine wpAny_bind ?_
 simp only [newExc, newTuple]
 refine wpAny_bind (wpAny_newObj_type ?_ (by size_fits))
 refine wpAny_bind (m := firstArgMember _ _) (wpAny_of_eq (a := Value.none) (by first | rfl | (simp only [firstArgMember]; rfl)) ?_)
 refine wpAny_newObj_type ?_ (by size_fits)
 simp only [raiseNew]
 refine wpAny_bind (wpAny_handled ?_)
 first | rw [show A.in1.handled = none from hh] | rw [hh]
 refine wpAny_bind (wpAny_pure (wpAny_throw ?_))
 exact hE _ _ (((Heap.SameBut.update ..).extBut.push _).push _) ⟨_, Heap.get?_push_size _ rfl, rfl⟩
theorem draws_tuple (hh : A.handled = none) (it l : Addr) (hne : l ≠ it) (items : Array Value) :
  Draws prog w A it [it, l] items.size (fun i v => items[i]? = some v) (fun i h => h.IsTupleIter it l i /\ h.IsTuple l items) where
 live := fun _ _ st => let ⟨o, ho, _⟩ := st.1; ⟨o, ho⟩
 frame := fun _ _ _ st hk => ⟨st.1.at fun o e => hk it (by simp) o e, st.2.at fun o e => hk l (by simp) o e⟩
 item := fun i s Q E hi st hQ => nextT_item st.1 st.2 (x := items[i]) (by simp [hi]) fun h' hit' hs' => hQ _ h' s.toks (by simp [hi]) ⟨hit', st.2.extBut hs'.extBut hne⟩ hs'
 done := fun s Q E st hE => nextT_end hh st.1 st.2 (by simp) hE
end
set_option maxHeartbeats 1000000 in
set_option tactic.hygienic true in
theorem newT (l : Addr) (items : Array Value) (n : Nat) (dct : Option Addr) (sl : Array (Option Value)) :
  Meets (Builtin.«enumerate.__new__» ⟨[.type "enumerate", .ref l], []⟩) (fun _ R s => s.heap.get? l = some { cls := .type "tuple", dict := dct, data := .seq items n, slots := sl } /\
   R (.ok (.ret (.ref (s.heap.push { cls := .type "tuple_iterator", data := .fields #[.ref l, .int 0 0] }).objs.size)))
     { s with heap := (s.heap.push { cls := .type "tuple_iterator", data := .fields #[.ref l, .int 0 0] }).push { cls := .type "enumerate", data := .fields #[.none, .bool false, .ref s.heap.objs.size, rawInt 0, .none, .none] } }) :=
 .of_wp fun prog w A R s h => by
  obtain ⟨hp, g, d, tk, os⟩ := s; obtain ⟨hl, h⟩ := h
  have hsub := sub_enumerate
  have hL : Heap.IsTuple (Shared.heap ⟨hp, g, d, tk, os⟩) l items := ⟨_, hl, rfl, n, rfl⟩
  wp_walk using AutoSeq1.wpAny_loadPart' hl
  refine wpAny_stack_any fun st => wpAny_pure ?_
  split
  ·rename_i c _ _ _ _ _
   cases (c == Value.type "enumerate")
   ·wp_walk using AutoSeq1.wpAny_loadPart' hl, wpAny_pyIter_tuple hL
    exact ⟨_, rfl, h⟩
   ·wp_walk using AutoSeq1.wpAny_loadPart' hl, wpAny_pyIter_tuple hL
    exact ⟨_, rfl, h⟩
  ·wp_walk using AutoSeq1.wpAny_loadPart' hl, wpAny_pyIter_tuple hL
   exact ⟨_, rfl, h⟩
section
variable {prog : Program} {w : World} {A : Around} {E : Value -> Shared -> Prop} {s : Shared}
theorem call_enumT {l : Addr} {items : Array Value} {Q : Value -> Shared -> Prop} (hL : s.heap.IsTuple l items)
  (h : ∀ h', IsEnum h' (s.heap.objs.size + 1) s.heap.objs.size 0 .none -> h'.IsTupleIter s.heap.objs.size l 0 -> h'.objs.size = s.heap.objs.size + 2 -> (∀ b o, s.heap.get? b = some o -> h'.get? b = some o) -> Q (.ref (s.heap.objs.size + 1)) { s with heap := h' }) :
  wpAny (model prog w) A (call (.type "enumerate") [.ref l]) Q E s := by
 obtain ⟨⟨c, dct, dt, sl⟩, hl, hc, n, hd⟩ := hL
 simp only at hc hd
 subst hc hd
 refine callType_new PySem.F.called_enumerate (by decide) (PySem.F.typeCall_enumerate_1 _) (PySem.F.newCall_enumerate_1 _) (fun obj => PySem.F.args_object_init_2 obj _) PySem.F.entry_enumerate_new (newT l items n dct sl) ⟨hl, ?_⟩
 have hz : (s.heap.push { cls := .type "tuple_iterator", data := .fields #[.ref l, .int 0 0] }).objs.size = s.heap.objs.size + 1 := Heap.size_push ..
 show _ /\ _
 rw [hz]
 have he : IsEnum ((s.heap.push { cls := .type "tuple_iterator", data := .fields #[.ref l, .int 0 0] }).push { cls := .type "enumerate", data := .fields #[.none, .bool false, .ref s.heap.objs.size, rawInt 0, .none, .none] }) (s.heap.objs.size + 1) s.heap.objs.size 0 .none := by
  have q := Heap.get?_push_size (s.heap.push { cls := .type "tuple_iterator", data := .fields #[.ref l, .int 0 0] }) (o := { cls := .type "enumerate", data := .fields #[.none, .bool false, .ref s.heap.objs.size, rawInt 0, .none, .none] }) rfl
  rw [hz] at q; exact q
 exact ⟨⟨_, he, rfl⟩, h _ he ⟨_, Heap.get?_push_of_some _ (Heap.get?_push_size _ rfl), rfl, rfl⟩ (by rw [Heap.size_push, hz]) fun b o x => Heap.get?_push_of_some _ (Heap.get?_push_of_some _ x)⟩
end
end LS
namespace LS
open PySem
noncomputable def Ris (l : List Nat) : Prop := l.Pairwise (· < ·)
theorem ris_get {xs : Array Nat} (h : Ris xs.toList) {a b : Nat} (hab : a < b) (hb : b < xs.size) (d e : Nat) : xs.getD a d < xs.getD b e := by
 have ha : a < xs.size := by lia
 have := List.pairwise_iff_getElem.mp h a b (by simpa using ha) (by simpa using hb) hab
 simpa [Array.getD, ha, hb] using this
theorem below_go {xs : Array Nat} (hs : Ris xs.toList) (j : Nat) (fuel : Nat) : ∀ (lo hi : Nat), hi - lo <= fuel -> lo <= hi -> hi <= xs.size -> (∀ k, k < lo -> xs.getD k 0 < j) -> (∀ k, hi <= k -> k < xs.size -> j <= xs.getD k 0) ->
  SetTable.below.go xs j fuel lo hi <= xs.size /\ (∀ k, k < SetTable.below.go xs j fuel lo hi -> xs.getD k 0 < j) /\ ∀ k, SetTable.below.go xs j fuel lo hi <= k -> k < xs.size -> j <= xs.getD k 0 := by
 induction fuel with
 | zero =>
   intro lo hi h1 h2 h3 h4 h5
   have e : lo = hi := Nat.le_antisymm h2 (Nat.le_of_sub_eq_zero (Nat.le_zero.mp h1))
   subst e
   exact ⟨h3, h4, h5⟩
 | succ fuel ih =>
   intro lo hi h1 h2 h3 h4 h5
   rw [SetTable.below.go]
   by_cases hl : lo < hi
   ·rw [if_pos hl]
    have a : lo <= (lo + hi) / 2 /\ (lo + hi) / 2 < hi := by omega
    dsimp only
    generalize (lo + hi) / 2 = m at a
    have hm : m < xs.size := Nat.lt_of_lt_of_le a.2 h3
    have hg : xs.getD m j = xs.getD m 0 := by simp [Array.getD, hm]
    rw [hg]
    by_cases hc : xs.getD m 0 < j
    ·rw [if_pos hc]
     refine ih _ hi (by omega) a.2 h3 (fun k hk => ?_) h5
     rcases Nat.lt_or_eq_of_le (Nat.le_of_lt_succ hk) with q | q
     ·exact Nat.lt_trans (ris_get hs q hm 0 0) hc
     ·rw [q]; exact hc
    ·rw [if_neg hc]
     have hc := Nat.le_of_not_lt hc
     refine ih lo _ (by omega) a.1 (Nat.le_of_lt hm) h4 (fun k hk hk' => ?_)
     rcases Nat.lt_or_eq_of_le hk with q | q
     ·exact Nat.le_trans hc (Nat.le_of_lt (ris_get hs q hk' 0 0))
     ·rw [<- q]; exact hc
   ·rw [if_neg hl]
    have e : lo = hi := Nat.le_antisymm h2 (Nat.le_of_not_lt hl)
    subst e
    exact ⟨h3, h4, h5⟩
theorem below_at {xs : Array Nat} (hs : Ris xs.toList) (j : Nat) : SetTable.below xs j <= xs.size /\ (∀ k, k < SetTable.below xs j -> xs.getD k 0 < j) /\ ∀ k, SetTable.below xs j <= k -> k < xs.size -> j <= xs.getD k 0 :=
 below_go hs j xs.size 0 xs.size (by lia) (Nat.zero_le _) (Nat.le_refl _) (fun k hk => by lia) fun k h1 h2 => by lia
theorem below_eq {xs : Array Nat} (hs : Ris xs.toList) {i j : Nat} (hi : i <= xs.size) (h1 : ∀ k, k < i -> xs.getD k 0 < j) (h2 : ∀ k, i <= k -> k < xs.size -> j <= xs.getD k 0) : SetTable.below xs j = i := by
 obtain ⟨a, b, c⟩ := below_at hs j
 rcases Nat.lt_trichotomy (SetTable.below xs j) i with h | h | h
 ·have := h1 _ h
  have := c _ (Nat.le_refl _) (by lia)
  lia
 ·exact h
 ·have := b i h
  have := h2 i (Nat.le_refl _) (by lia)
  lia
theorem not_live {xs : Array Nat} (hs : Ris xs.toList) {j : Nat} (h : xs[SetTable.below xs j]? ≠ some j) : j ∉ xs.toList := by
 intro hm
 obtain ⟨k, hk, e⟩ := List.getElem_of_mem hm
 have hk' : k < xs.size := by simpa using hk
 have ek : xs.getD k 0 = j := by simpa [Array.getD, hk'] using e
 have : SetTable.below xs j = k := below_eq hs (Nat.le_of_lt hk') (fun i hi => by rw [<- ek]; exact ris_get hs hi hk' 0 0) (fun i h1 h2 => by
  by_cases hik : k = i
  ·subst hik; lia
  ·have := ris_get hs (show k < i by lia) h2 0 0
   lia)
 rw [this] at h
 refine h ?_
 rw [Array.getElem?_eq_getElem hk']
 simpa using e
theorem ris_put {t : SetTable} (hs : Ris t.place.toList) {j : Nat} (h : t.place[SetTable.below t.place j]? ≠ some j) : Ris (t.put j).1.place.toList := by
 have hn := not_live hs h
 obtain ⟨a, b, c⟩ := below_at hs j
 show Ris (SetTable.insertAt t.place (SetTable.below t.place j) j).toList
 rw [SetTable.toList_insertAt]
 have hs' : (t.place.toList.take (SetTable.below t.place j) ++ t.place.toList.drop (SetTable.below t.place j)).Pairwise (· < ·) := by rw [List.take_append_drop]; exact hs
 rw [List.pairwise_append] at hs'
 refine List.pairwise_append.mpr ⟨hs'.1, List.pairwise_cons.mpr ⟨fun x hx => ?_, hs'.2.1⟩, fun x hx y hy => ?_⟩
 ·obtain ⟨k, hk, e⟩ := List.getElem_of_mem hx
  rw [List.getElem_drop] at e
  have hk2 : SetTable.below t.place j + k < t.place.size := by
   have := List.length_drop (i := SetTable.below t.place j) (l := t.place.toList)
   have hk3 := hk
   rw [this] at hk3
   simp at hk3
   lia
  have := c (SetTable.below t.place j + k) (by lia) hk2
  have e2 : t.place.getD (SetTable.below t.place j + k) 0 = x := by simpa [Array.getD, hk2] using e
  have hne : x ≠ j := fun z => hn (by rw [<- z]; exact List.mem_of_mem_drop hx)
  lia
 ·obtain ⟨k, hk, e⟩ := List.getElem_of_mem hx
  have hk2 : k < SetTable.below t.place j := by
   have := List.length_take (i := SetTable.below t.place j) (l := t.place.toList)
   lia
  have hk3 : k < t.place.size := by lia
  rw [List.getElem_take] at e
  have e2 : t.place.getD k 0 = x := by simpa [Array.getD, hk3] using e
  have hxj := b k hk2
  rw [e2] at hxj
  rcases List.mem_cons.mp hy with z | z
  ·rw [z]; exact hxj
  ·exact hs'.2.2 x hx y z
set_option tactic.hygienic true in
theorem probe_free {t : SetTable} {f : Nat -> Int} {h : Int} : ∀ {fuel : Nat} {p : SetTable.Probe} {j : Nat} {dm : Option Nat}, (∀ d, p.dummy = some d -> t.place[SetTable.below t.place d]? ≠ some d) ->
  SetTable.probe.go t f h fuel p = some (.empty j dm) -> t.place[SetTable.below t.place (dm.getD j)]? ≠ some (dm.getD j)
 | 0, p, j, dm, _, e => by cases e
 | fuel + 1, p, j, dm, hd, e => by
   have hdm : ∀ q : SetTable.Probe, (t.advance q).dummy = q.dummy := fun q => by unfold SetTable.advance; split <;> rfl
   rw [SetTable.probe.go] at e
   have nl : ∀ i, t.slot i = .empty \/ t.slot i = .dummy -> t.place[SetTable.below t.place i]? ≠ some i := by
    intro i hi z
    unfold SetTable.slot at hi
    dsimp only at hi
    rw [z] at hi
    simp at hi
   split at e
   ·rename_i hs
    cases e
    cases hp : p.dummy with
    | none => exact nl _ (.inl hs)
    | some d => exact hd d hp
   ·rename_i hs
    refine probe_free (fun d hd' => ?_) e
    rw [hdm] at hd'
    cases hd'
    exact nl _ (.inr hs)
   ·split at e
    ·cases e
    ·exact probe_free (fun d hd' => hd d (by rw [hdm] at hd'; exact hd')) e
theorem ris_range (n : Nat) : Ris (Array.range n).toList := by rw [Array.toList_range]; exact List.pairwise_lt_range
theorem ris_orStandIn {t : SetTable} {n : Nat} (h : Ris t.place.toList) : Ris (t.orStandIn n).place.toList /\ (t.orStandIn n).led = t.led := by
 unfold SetTable.orStandIn
 split
 ·exact ⟨h, rfl⟩
 ·exact ⟨ris_range n, rfl⟩
set_option tactic.hygienic true in
theorem ris_layNew {t : SetTable} {es : Array (Int × Value)} {h : Int} {x : Value} (hs : Ris t.place.toList) : Ris (layNew t es h x).2.1.place.toList /\ (layNew t es h x).2.1.led = t.led := by
 unfold layNew
 split
 ·rename_i slot wd e
  unfold SetTable.freeSlot at e
  split at e
  ·rename_i j dm ep
   cases e
   have := probe_free (t := t) (fun d z => by cases z) ep
   obtain ⟨a, b⟩ := ris_orStandIn (n := (SetTable.insertAt es (t.put (dm.getD j)).2 (h, x)).size) (ris_put hs this)
   exact ⟨a, b⟩
  ·cases e
 ·exact ⟨ris_range _, rfl⟩
set_option tactic.hygienic true in
theorem ris_relayAll {t : SetTable} {es : Array (Int × Value)} {n : Nat} : Ris (relayAll t es n).2.1.place.toList /\ (relayAll t es n).2.1.led = t.led := by
 unfold relayAll
 split
 ·rename_i t' order e
  dsimp only
  split
  ·unfold SetTable.relaid SetTable.laid at e
   obtain ⟨owner, _, e2⟩ := Option.bind_eq_some_iff.mp e
   cases e2
   refine ⟨?_, rfl⟩
   show Ris (List.map _ _)
   refine List.pairwise_map.mpr (List.pairwise_filterMap.mpr ?_)
   refine List.pairwise_lt_range.imp fun {a b} hab x hx y hy => ?_
   cases ea : owner.getD a none with
   | none => rw [ea] at hx; cases hx
   | some u =>
     cases eb : owner.getD b none with
     | none => rw [eb] at hy; cases hy
     | some v =>
       rw [ea] at hx; rw [eb] at hy
       cases hx; cases hy
       exact hab
  ·exact ⟨ris_range _, rfl⟩
 ·exact ⟨ris_range _, rfl⟩
end LS
namespace LS
open PySem PyProof.Rows
noncomputable def iv : Value -> Int
 | .int n _ => n
 | _ => 0
theorem ints_iff : ∀ {vs : List Value} {ns : List Int}, IntsAre vs ns ↔ (∀ v ∈ vs, ∃ n t, v = .int n t) /\ ns = vs.map iv
 | [], ns => ⟨fun h => by cases h; exact ⟨fun v hv => by simp at hv, rfl⟩, fun ⟨_, h⟩ => by subst h; exact .nil⟩
 | v :: vs, ns => ⟨fun h => by
     cases h with
     | cons n t h =>
       obtain ⟨h1, h2⟩ := ints_iff.mp h
       refine ⟨fun u hu => ?_, by rw [h2]; rfl⟩
       rcases List.mem_cons.mp hu with z | z
       ·exact ⟨n, t, z⟩
       ·exact h1 u z, fun ⟨h1, h2⟩ => by
     obtain ⟨n, t, rfl⟩ := h1 v List.mem_cons_self
     subst h2
     exact .cons n t (ints_iff.mpr ⟨fun u hu => h1 u (List.mem_cons_of_mem _ hu), rfl⟩)⟩
theorem ints_perm {vs vs' : List Value} {ns : List Int} (h : IntsAre vs ns) (p : vs'.Perm vs) : ∃ ns', IntsAre vs' ns' /\ ns'.Perm ns := by
 obtain ⟨h1, h2⟩ := ints_iff.mp h
 exact ⟨vs'.map iv, ints_iff.mpr ⟨fun v hv => h1 v (p.mem_iff.mp hv), rfl⟩, by rw [h2]; exact p.map iv⟩
noncomputable def ISet (prog : Program) (w : World) (h : Heap) (a : Addr) (led : Bool) (ns : List Int) : Prop := ∃ o es ep t, h.get? a = some o /\ o.ExactSet /\ o.data = .set es ep t /\ ElemsOf (intKind prog w) es.toList /\
 IntsAre (es.toList.map (·.2)) ns /\ ns.Nodup /\ es.size < scanBound /\ t.fits es.size = true /\ t.led = led /\ Ris t.place.toList
section
variable {prog : Program} {w : World} {A : Around} {E : Value -> Shared -> Prop} {s : Shared} {a : Addr} {led : Bool} {ns : List Int}
theorem ISet.keeps {h h' : Heap} (x : ISet prog w h a led ns) (k : ∀ o, h.get? a = some o -> h'.get? a = some o) : ISet prog w h' a led ns := by
 obtain ⟨o, es, ep, t, ho, r⟩ := x
 exact ⟨o, es, ep, t, k o ho, r⟩
theorem iset_put {h : Heap} {o : Obj} {es : Array (Int × Value)} {ep : Nat} {t : SetTable} (ho : h.get? a = some o) (hex : o.ExactSet) (hd : o.data = .set es ep t) {es' : Array (Int × Value)} {t' : SetTable} {ns' : List Int}
  (h1 : ElemsOf (intKind prog w) es'.toList) (h2 : IntsAre (es'.toList.map (·.2)) ns') (h3 : ns'.Nodup) (h4 : es'.size < scanBound) (h5 : t'.fits es'.size = true) (h6 : t'.led = led) (h7 : Ris t'.place.toList) :
  (h.update a (Obj.putSet es' t')).get? a = some { o with data := .set es' (ep + 1) t' } /\ ISet prog w (h.update a (Obj.putSet es' t')) a led ns' := by
 have hg : (h.update a (Obj.putSet es' t')).get? a = some { o with data := .set es' (ep + 1) t' } := by
  have q := Heap.get?_update_self (Obj.putSet es' t') ho (by rw [putSet_of es' t' hd]; rfl)
  rwa [putSet_of es' t' hd] at q
 exact ⟨hg, _, es', ep + 1, t', hg, hex, rfl, h1, h2, h3, h4, h5, h6, h7⟩
theorem iset_tail {g : Bool -> Sem Unit} (hg : ∀ (b : Bool) (s₁ : Shared) (Q' : Unit -> Shared -> Prop), Q' () s₁ -> wpAny (model prog w) A (g b) Q' E s₁) {o : Obj} {es : Array (Int × Value)} {ep : Nat} {t : SetTable}
  (ho : s.heap.get? a = some o) (hex : o.ExactSet) (hd : o.data = .set es ep t) {es1 : Array (Int × Value)} {t2 : SetTable} {ns1 : List Int} (h1 : ElemsOf (intKind prog w) es1.toList) (h2 : IntsAre (es1.toList.map (·.2)) ns1) (h3 : ns1.Nodup) (h4 : es1.size < scanBound)
  (h5 : t2.fits es1.size = true) (h6 : t2.led = led) (h7 : Ris t2.place.toList) {wd : Bool} {R : Option Bool -> Shared -> Prop}
  (h : ∀ h' ns', Heap.SameBut a s.heap h' -> ISet prog w h' a led ns' -> ns'.Perm ns1 -> R (some true) { s with heap := h' }) :
  wpAny (model prog w) A (do
    storeSet a es1 t2
    if (!wd && t2.tooFull) = true then do
        g (relayAll t2 es1 (SetTable.grown es1.size)).2.2
        storeSet a (relayAll t2 es1 (SetTable.grown es1.size)).1 (relayAll t2 es1 (SetTable.grown es1.size)).2.1
        pure (some true)
     else pure (some true)) R E s := by
 refine wpAny_bind (wpAny_storeSet_of ho hd ?_ (fits_of_scanBound h4))
 obtain ⟨ho1, S1⟩ := iset_put (led := led) ho hex hd h1 h2 h3 h4 h5 h6 h7
 have b1 := Heap.SameBut.update s.heap a (Obj.putSet es1 t2)
 split
 ·have hp := relayAll_perm t2 es1 (SetTable.grown es1.size)
  have hf := relayAll_fits t2 es1 (SetTable.grown es1.size)
  obtain ⟨hr, hl⟩ := ris_relayAll (t := t2) (es := es1) (n := SetTable.grown es1.size)
  generalize relayAll t2 es1 (SetTable.grown es1.size) = Z at hp hf hr hl ⊢
  obtain ⟨es2, t3, gave⟩ := Z
  dsimp only at hp hf hr hl ⊢
  obtain ⟨ns2, i2, p2⟩ := ints_perm h2 (hp.map (·.2))
  have hz : es2.size = es1.size := by rw [<- Array.length_toList, hp.length_eq, Array.length_toList]
  have b2 : es2.size < scanBound := by rw [hz]; exact h4
  refine wpAny_bind (hg _ _ _ (wpAny_bind (wpAny_storeSet_of ho1 rfl ?_ (fits_of_scanBound b2))))
  obtain ⟨_, S2⟩ := iset_put (led := led) ho1 hex rfl (h1.perm hp) i2 (p2.nodup_iff.mpr h3) b2 hf (hl.trans h6) hr
  exact wpAny_pure (h _ ns2 (b1.trans (Heap.SameBut.update _ a _)) S2 p2)
 ·exact wpAny_pure (h _ ns1 b1 S1 (.refl _))
theorem mem_ints {es : List (Int × Value)} {i : Int} (h : IntsAre (es.map (·.2)) ns) : i ∈ ns ↔ ∃ e ∈ es, Value.isInt i e.2 = true := by
 obtain ⟨h1, h2⟩ := ints_iff.mp h
 subst h2
 constructor
 ·intro hm
  obtain ⟨v, hv, e⟩ := List.mem_map.mp hm
  obtain ⟨x, hx, rfl⟩ := List.mem_map.mp hv
  obtain ⟨n, t, q⟩ := h1 _ hv
  rw [q] at e
  cases e
  exact ⟨x, hx, by rw [q]; simp [Value.isInt, iv]⟩
 ·rintro ⟨e, he, q⟩
  obtain ⟨t, z⟩ := Value.isInt_shape q
  exact List.mem_map.mpr ⟨e.2, List.mem_map.mpr ⟨e, he, rfl⟩, by rw [z]; rfl⟩
theorem iset_add {i : Int} {tk : Tok} {Q : Bool -> Shared -> Prop} (hS : ISet prog w s.heap a led ns) (room : ns.length + 1 < scanBound)
  (h : ∀ h' ns' b, Heap.SameBut a s.heap h' -> ISet prog w h' a led ns' -> (∀ k, k ∈ ns' ↔ k ∈ ns \/ k = i) -> ns'.length <= ns.length + 1 -> Q b { s with heap := h' }) :
  wpAny (model prog w) A (setAddHashed a (.int i tk) (hashInt i)) Q E s := by
 obtain ⟨o, es, ep, t, ho, hex, hd, h1, h2, h3, h4, h5, h6, h7⟩ := hS
 have hlen : ns.length = es.size := by
  obtain ⟨_, e⟩ := ints_iff.mp h2
  rw [e]; simp
 have hk : (intKind prog w).is i (.int i tk) = true := intKind_is prog w i tk
 have hsc : (Value.int i tk).scannable = true := rfl
 unfold setAddHashed setAddHashedIn
 refine wpAny_holding (wpAny_bind (wpAny_setState_of ho hd h5 ?_))
 dsimp only
 rw [byScan_of hsc h4 h1]
 simp only [↓reduceIte]
 unfold setAddByScan
 refine wpAny_bind (wpAny_bind (wpAny_rule (wpAny_bind (wpAny_setScan_of (knd := intKind prog w) (k := i) hk ho hd h5 h1 ?_))))
 cases hf : List.findIdx? (fun e => (intKind prog w).is i e.2) es.toList with
 | some j =>
   dsimp only
   obtain ⟨hj, hpj, _⟩ := List.findIdx?_eq_some_iff_getElem.mp hf
   have hm : i ∈ ns := (mem_ints h2).mpr ⟨_, List.getElem_mem hj, hpj⟩
   refine wpAny_pure (wpAny_pure ?_)
   have q := h s.heap ns false (Heap.SameBut.refl a s.heap) ⟨o, es, ep, t, ho, hex, hd, h1, h2, h3, h4, h5, h6, h7⟩ (fun k => ⟨.inl, fun z => z.elim id fun e => e ▸ hm⟩) (Nat.le_succ _)
   exact q
 | none =>
   dsimp only
   have hn : i ∉ ns := fun hm => by
    obtain ⟨e, he, q⟩ := (mem_ints h2).mp hm
    have z := List.findIdx?_eq_none_iff.mp hf e he
    rw [show (intKind prog w).is i e.2 = true from q] at z
    cases z
   have gw : ∀ (b : Bool) {s₁ : Shared} {Q' : Unit -> Shared -> Prop}, Q' () s₁ -> wpAny (model prog w) A (match b with | true => rule "set.scan.the-table-gave-way" | false => pure ()) Q' E s₁ :=
    fun b s₁ Q' hq => by cases b <;> first | exact wpAny_pure hq | exact wpAny_rule hq
   have hp := layNew_perm t es (hashInt i) (.int i tk)
   have hft := layNew_fits t es (hashInt i) (.int i tk)
   obtain ⟨hr, hl⟩ := ris_layNew (t := t) (es := es) (h := hashInt i) (x := .int i tk) h7
   generalize layNew t es (hashInt i) (.int i tk) = Z at hp hft hr hl ⊢
   obtain ⟨es1, t1, wd, gave⟩ := Z
   dsimp only at hp hft hr hl ⊢
   rw [Array.toList_push] at hp
   have e1 : ElemsOf (intKind prog w) es1.toList := (h1.push hk hsc).perm hp
   have i0 : IntsAre ((es.toList ++ [(hashInt i, Value.int i tk)]).map (·.2)) (ns ++ [i]) := by
    obtain ⟨x1, x2⟩ := ints_iff.mp h2
    refine ints_iff.mpr ⟨fun v hv => ?_, by rw [x2]; simp [iv]⟩
    rw [List.map_append] at hv
    rcases List.mem_append.mp hv with z | z
    ·exact x1 v z
    ·simp at z; exact ⟨i, tk, z⟩
   obtain ⟨ns1, i1, p1⟩ := ints_perm i0 (hp.map (·.2))
   have nd : ns1.Nodup := p1.nodup_iff.mpr (by
    rw [List.nodup_append]
    exact ⟨h3, by simp, fun x hx y hy => by simp at hy; rw [hy]; exact fun z => hn (z ▸ hx)⟩)
   have hz : es1.size = es.size + 1 := by rw [<- Array.length_toList, hp.length_eq, List.length_append, Array.length_toList]; rfl
   have b1 : es1.size < scanBound := by lia
   have fin : ∀ h' ns', Heap.SameBut a s.heap h' -> ISet prog w h' a led ns' -> ns'.Perm ns1 -> Q true { s with heap := h' } := fun h' ns' sb S p => by
    refine h h' ns' true sb S (fun k => ?_) ?_
    ·rw [p.mem_iff, p1.mem_iff]; simp
    ·rw [p.length_eq, p1.length_eq]; simp
   refine wpAny_bind (gw _ ?_)
   split
   ·rw [hashByValue_scannable 8 hsc]
    refine wpAny_bind (wpAny_pure ?_)
    refine iset_tail (led := led) ?_ ho hex hd e1 i1 nd b1 ?_ ?_ ?_ fun h' ns' sb S p => ?_
    ·intro b s₁ Q' hq; cases b <;> first | exact wpAny_pure hq | exact wpAny_rule hq
    ·split
     ·exact hft
     ·exact SetTable.fits_plain_off hft
    ·split <;> exact hl.trans h6
    ·split <;> exact hr
    ·dsimp only; exact wpAny_pure (fin h' ns' sb S p)
   ·refine wpAny_bind (wpAny_pure ?_)
    simp only [↓reduceIte]
    refine iset_tail (led := led) ?_ ho hex hd e1 i1 nd b1 hft (hl.trans h6) hr fun h' ns' sb S p => ?_
    ·intro b s₁ Q' hq; cases b <;> first | exact wpAny_pure hq | exact wpAny_rule hq
    ·dsimp only; exact wpAny_pure (fin h' ns' sb S p)
end
end LS
namespace LS
open PySem PySem.Spec PyProof.Rows
section
variable {prog : Program} {w : World} {A : Around} {E : Value -> Shared -> Prop} {s : Shared}
noncomputable abbrev ledOf (w : World) : Bool := !w.params.followText "set-order"
noncomputable abbrev bareSet (w : World) : Obj := { cls := .type "set", dict := none, data := .set #[] 0 (.fresh 0 0 (ledOf w)) }
theorem iset_bare {h : Heap} {a : Addr} (e : h.get? a = some (bareSet w)) : ISet prog w h a (ledOf w) [] :=
 ⟨_, #[], 0, _, e, ⟨rfl, rfl, rfl⟩, rfl, fun x hx => by simp at hx, .nil, .nil, by decide, rfl, rfl, List.Pairwise.nil⟩
theorem set_new (a : Value) {Q₁ : Value -> Shared -> Prop} (h : Q₁ (.ref s.heap.objs.size) { s with heap := s.heap.push (bareSet w) }) :
  codeAny (model prog w) A (.call (.builtin "set.__new__") ⟨[.type "set", a], []⟩) (wants Q₁ E) s := by
 refine codeAny_of_tree ?_
 show wpAny _ A.in1 (checkBuiltinCall "set.__new__" ⟨[.type "set", a], []⟩ >>= fun _ => again (.builtin "set.__new__" ⟨[.type "set", a], []⟩)) _ _ s
 refine wpAny_bind (wpAny_of_eq (PySem.F.newCall_set_1 a) (wpAny_pure ⟨plainId_quiet PySem.F.plain_set_new _, codeAny_builtin PySem.F.entry_set_new ?_⟩))
 rw [Around.under_plainId PySem.F.plain_set_new _]
 unfold Builtin.«set.__new__» Builtin.Frozenset.newClass
 have hsub := sub_set_self
 obtain ⟨hp, g, d, tk, os⟩ := s
 dsimp only
 wp_walk
 refine wpAny_askSetting (wpAny_pure ?_)
 dsimp only
 simp only [newObj]
 exact wpAny_bind (wpAny_alloc (wpAny_pure (wpAny_pure h)))
end
section
variable {prog : Program} {w : World} {A : Around} {R : Result -> Shared -> Prop} {I : Addr} {fp wr : List Addr} {G : Array GenState -> Array GenState -> Prop} {n : Nat} {P : Nat -> Value -> Prop} {St : Nat -> Shared -> Prop} {led : Bool}
theorem set_loop (W : WalksS prog w A.in1 I fp wr G n P St) (S : Addr) (hSf : S ∉ fp) (val : Nat -> Int) (hval : ∀ i v, P i v -> ∃ t, v = .int (val i) t) (hb : n + 1 < scanBound) :
  ∀ (k i : Nat) (s : Shared) (ns : List Int), n - i = k -> i <= n -> St i s -> ISet prog w s.heap S led ns -> ns.length <= i -> (∀ x, x ∈ ns ↔ ∃ j, j < i /\ val j = x) ->
    (∀ s' ns', Moved (S :: wr) G s s' -> ISet prog w s'.heap S led ns' -> ns'.length <= n -> (∀ x, x ∈ ns' ↔ ∃ j, j < n /\ val j = x) -> R (.ok (.ret .none)) s') ->
    codeAny (model prog w) A (.builtin "set.update.loop" ⟨[.ref S, .ref I], []⟩) R s := by
 have hSw : S ∉ wr := fun h => hSf (W.sub _ h)
 have hsub : ∀ b ∈ wr, b ∈ S :: wr := fun b hb => List.mem_cons_of_mem _ hb
 intro k
 induction k with
 | zero =>
   intro i s ns hk hi st hS hl hm hR
   have hin : i = n := by lia
   subst hin
   refine codeAny_builtin PyProof.Rows.F.entry_set_update_loop ?_
   rw [Around.under_plainId PyProof.Rows.F.plain_set_update_loop _]
   show wpAny _ A.in1 (pyNext (.ref I) >>= _) _ _ s
   refine wpAny_bind (W.done s _ _ st fun s' mv => ?_)
   show wpAny _ A.in1 (ret Value.none) _ _ s'
   exact wpAny_pure (hR s' ns (mv.mono hsub) (hS.keeps fun o e => mv.heap S o hSw e) hl hm)
 | succ k ih =>
   intro i s ns hk hi st hS hl hm hR
   have hlt : i < n := by lia
   refine codeAny_builtin PyProof.Rows.F.entry_set_update_loop ?_
   rw [Around.under_plainId PyProof.Rows.F.plain_set_update_loop _]
   show wpAny _ A.in1 (pyNext (.ref I) >>= _) _ _ s
   refine wpAny_bind (W.item i s _ _ hlt st fun v s' hP st' mv => ?_)
   obtain ⟨t, rfl⟩ := hval i v hP
   have hS' : ISet prog w s'.heap S led ns := hS.keeps fun o e => mv.heap S o hSw e
   show wpAny _ A.in1 (holding [Value.int (val i) t] (setAdd S (.int (val i) t)) >>= _) _ _ s'
   refine wpAny_bind (wpAny_holding ?_)
   unfold setAdd
   refine wpAny_holding (wpAny_bind ((intKind prog w).pyHash (k := val i) (intKind_is _ _ _ _) ?_))
   refine iset_add (s := { s' with toks := s'.toks + 1 }) hS' (by lia) fun h' ns' b sb S2 hm2 hl2 => ?_
   refine wpAny_pure ⟨plainId_quiet PyProof.Rows.F.plain_set_update_loop _, ih (i + 1) _ ns' (by lia) hlt (W.frame _ s' _ _ st' (Nat.le_succ _) fun b hb o e => ?_) S2 (by lia) (fun x => ?_) fun s'' ns'' mv'' S3 l3 m3 => ?_⟩
   ·rw [sb.2 b (fun z : b = S => hSf (by rw [<- z]; exact hb))]; exact e
   ·rw [hm2, hm]
    constructor
    ·rintro (⟨j, hj, e⟩ | e)
     ·exact ⟨j, by lia, e⟩
     ·exact ⟨i, by lia, e.symm⟩
    ·rintro ⟨j, hj, e⟩
     by_cases hji : j = i
     ·subst hji; exact .inr e.symm
     ·exact .inl ⟨j, by lia, e⟩
   ·refine hR s'' ns'' (Moved.trans W.gtrans ((mv.mono hsub).then_heap (Nat.le_succ _) fun b o hb e => ?_) mv'') S3 l3 m3
    rw [sb.2 b (fun z : b = S => hb (by rw [z]; exact List.mem_cons_self))]; exact e
end
section
variable {prog : Program} {w : World} {A : Around} {E : Value -> Shared -> Prop} {s : Shared}
structure RowSrc (prog : Program) (w : World) (h : Heap) (r : Addr) (items : Array Value) (T : String) (oI : Obj) (St : Addr -> Nat -> Heap -> Prop) : Prop where
 ty : ∃ o, h.get? r = some o /\ o.cls = .type T
 sub1 : isSubtype (.type T) (.type "set") = pure false
 sub2 : isSubtype (.type T) (.type "frozenset") = pure false
 nd : (Value.type T == Value.type "dict") = false
 iter : ∀ (A' : Around) (s' : Shared) (Q : Value -> Shared -> Prop) (E : Value -> Shared -> Prop), (∀ o, h.get? r = some o -> s'.heap.get? r = some o) -> Q (.ref s'.heap.objs.size) { s' with heap := s'.heap.push oI } -> wpAny (model prog w) A' (pyIter (.ref r)) Q E s'
 walk : ∀ (A' : Around) (I : Addr), A'.handled = none -> r ≠ I -> Walks prog w A' I [I, r] [I] items.size (fun i v => items[i]? = some v) (St I)
 st : ∀ h' : Heap, (∀ o, h.get? r = some o -> h'.get? r = some o) -> St h'.objs.size 0 (h'.push oI)
theorem src_list {h : Heap} {l : Addr} {items : Array Value} (hl : h.IsList l items) : RowSrc prog w h l items "list" { cls := .type "list_iterator", data := .fields #[.ref l, .int 0 0] } (fun I i h => h.IsListIter I l i /\ h.IsList l items) where
 ty := let ⟨o, e, c, _⟩ := hl; ⟨o, e, c⟩
 sub1 := PySem.F.sub_list_set
 sub2 := PySem.F.sub_list_frozenset
 nd := by decide
 iter := fun A' s' Q E k q => wpAny_pyIter_list (hl.at k) q
 walk := fun A' I hh hne => Walks.list hh I l hne items
 st := fun h' k => ⟨⟨_, Heap.get?_push_size _ rfl, rfl, rfl⟩, (hl.at k).push _⟩
theorem src_tuple {h : Heap} {l : Addr} {items : Array Value} (hl : h.IsTuple l items) : RowSrc prog w h l items "tuple" { cls := .type "tuple_iterator", data := .fields #[.ref l, .int 0 0] } (fun I i h => h.IsTupleIter I l i /\ h.IsTuple l items) where
 ty := let ⟨o, e, c, _⟩ := hl; ⟨o, e, c⟩
 sub1 := by rw [isSubtype_type]; kernel_rfl
 sub2 := by rw [isSubtype_type]; kernel_rfl
 nd := by decide
 iter := fun A' s' Q E k q => wpAny_pyIter_tuple (hl.at k) q
 walk := fun A' I hh hne => Walks.tuple hh I l hne items
 st := fun h' k => ⟨⟨_, Heap.get?_push_size _ rfl, rfl, rfl⟩, (hl.at k).push _⟩
set_option maxHeartbeats 3200000 in
theorem call_set {r : Addr} {items : Array Value} {ms : List Int} {T : String} {oI : Obj} {St : Addr -> Nat -> Heap -> Prop} {Q : Value -> Shared -> Prop} (hh : A.handled = none) (src : RowSrc prog w s.heap r items T oI St) (hi : IntsAre items.toList ms) (hb : items.size + 1 < scanBound)
  (h : ∀ (h' : Heap) (tk : Nat) (ns : List Int), ISet prog w h' s.heap.objs.size (ledOf w) ns -> (∀ x, x ∈ ns ↔ x ∈ ms) -> ns.length <= ms.length -> (∀ b o, s.heap.get? b = some o -> h'.get? b = some o) -> Q (.ref s.heap.objs.size) { s with heap := h', toks := tk }) :
  wpAny (model prog w) A (call (.type "set") [.ref r]) Q E s := by
 obtain ⟨c, tl, hmro⟩ := PySem.F.called_set.mro
 have hmade := PySem.F.called_set.made
 have hsub := PySem.F.called_set.sub
 refine wpAny_call (codeAny_of_tree ?_)
 show wpAny _ _ (callAny (.type "set") _) _ _ _
 refine wpAny_pure ⟨Code.quiet_builtin _ (by decide +kernel), codeAny_builtin PySem.F.entry_type_call ?_⟩
 rw [Around.under_plain (weight_type_call_type "set" [.ref r] []) rfl]
 have h1 := PySem.F.called_set.notType
 have h2 := PySem.F.called_set.canCreate
 have hct := PySem.F.typeCall_set_1 (.ref r)
 repeat (any_goals (first | assumption | wp_step))
 refine codeAny_mono (set_new (.ref r) (E := E) (Q₁ := fun obj s₁ => obj = .ref s.heap.objs.size /\ s₁ = { s with heap := s.heap.push (bareSet w) }) ⟨rfl, rfl⟩) fun q s₁ hq => ?_
 cases q with
 | error e => exact hq
 | ok fl =>
   cases fl with
   | ret obj =>
     obtain ⟨rfl, rfl⟩ := hq
     have hS : (s.heap.push (bareSet w)).get? s.heap.objs.size = some (bareSet w) := Heap.get?_push_size _ rfl
     have hT : Shared.TypeIs { s with heap := s.heap.push (bareSet w) } (.ref s.heap.objs.size) "set" := ⟨_, hS, rfl⟩
     have hli := PySem.F.called_set.init.lookup
     have hbi := PySem.F.called_set.init.bind (.ref s.heap.objs.size)
     repeat (any_goals (first | assumption | wp_step))
     refine codeAny_mono (codeAny_call_builtin (R := wants (fun v s₂ => v = .none /\ ∃ h' tk ns, s₂ = { s with heap := h', toks := tk } /\ ISet prog w h' s.heap.objs.size (ledOf w) ns /\ (∀ x, x ∈ ns ↔ x ∈ ms) /\ ns.length <= ms.length /\ ∀ b o, s.heap.get? b = some o -> h'.get? b = some o) E)
      PySem.F.called_set.init.plain PySem.F.entry_set_init (check_set_init_1 hT ?_)) fun r₂ s₂ hr₂ => ?_
     ·obtain ⟨orow, horow, hcl⟩ := src.ty
      obtain ⟨ocls, odict, odata, oslots⟩ := orow
      simp only at hcl
      subst hcl
      have hol' : (s.heap.push (bareSet w)).get? r = some { cls := .type T, dict := odict, data := odata, slots := oslots } := Heap.get?_push_of_some _ horow
      have hs1 := src.sub1
      have hs2 := src.sub2
      have hne := src.nd
      unfold Builtin.«set.__init__» noKeywords Builtin.Frozenset.updateFrom
      generalize hPI : pyIter = PI
      wp_walk
      subst hPI
      refine src.iter _ _ _ _ (fun o e => Heap.get?_push_of_some _ e) ?_
      refine wpAny_bind (wpAny_runValue ?_)
      have hrS : r < s.heap.objs.size := Heap.lt_size horow
      have hh3 : A.in1.in1.in1.handled = none := by simp [hh]
      have hz : (s.heap.push (bareSet w)).objs.size = s.heap.objs.size + 1 := Heap.size_push _ _
      have hneI : r ≠ (s.heap.push (bareSet w)).objs.size := by rw [hz]; exact Nat.ne_of_lt (Nat.lt_succ_of_lt hrS)
      have hSf : s.heap.objs.size ∉ [(s.heap.push (bareSet w)).objs.size, r] := by
       rw [hz]; simp only [List.mem_cons, List.not_mem_nil, or_false, not_or]
       exact ⟨Nat.ne_of_lt (Nat.lt_succ_self _), Nat.ne_of_gt hrS⟩
      have hval : ∀ (i : Nat) (v : Value), items[i]? = some v -> ∃ t, v = .int ((fun i => ms.getD i 0) i) t := fun i v hv => IntsAre.int_at hi i v (by rw [Array.getElem?_toList]; exact hv)
      have hlen : ms.length = items.size := by have := (ints_iff.mp hi).2; rw [this]; simp
      refine set_loop ((src.walk _ _ hh3 hneI).toS) s.heap.objs.size hSf (fun i => ms.getD i 0) hval hb (items.size - 0) 0 _ [] (by lia) (Nat.zero_le _) (src.st _ fun o e => Heap.get?_push_of_some _ e) (iset_bare (Heap.get?_push_of_some _ hS)) (Nat.le_refl _) (fun x => by simp) ?_
      intro s' ns' mv S' l' m'
      obtain ⟨h', g', d', tk', os'⟩ := s'
      have eg : g' = s.gens := mv.gens
      have ed : d' = s.drawn := mv.drawn
      have eo : os' = s.os := mv.os
      subst eg ed eo
      show wpAny _ _ _ _ _ _
      refine wpAny_pure ?_
      show wpAny _ _ (ret Value.none) _ _ _
      refine wpAny_pure ⟨rfl, h', tk', ns', rfl, S', fun x => ?_, by lia, fun b o e => ?_⟩
      ·rw [m', <- hlen]
       constructor
       ·rintro ⟨j, hj, e⟩
        rw [List.getD_eq_getElem?_getD, List.getElem?_eq_getElem hj] at e
        rw [<- e]; exact List.getElem_mem hj
       ·intro hx
        obtain ⟨j, hj, e⟩ := List.getElem_of_mem hx
        exact ⟨j, hj, by rw [List.getD_eq_getElem?_getD, List.getElem?_eq_getElem hj]; exact e⟩
      ·have hb0 := Heap.lt_size e
       refine mv.heap b o ?_ (Heap.get?_push_of_some _ (Heap.get?_push_of_some _ e))
       rw [hz]
       simp only [List.mem_cons, List.not_mem_nil, or_false, not_or]
       exact ⟨Nat.ne_of_lt hb0, Nat.ne_of_lt (Nat.lt_succ_of_lt hb0)⟩
     ·cases r₂ with
      | error e => exact hr₂
      | ok fl₂ =>
        cases fl₂ with
        | ret v =>
          obtain ⟨rfl, h', tk, ns, rfl, S', m', l', k'⟩ := hr₂
          repeat (any_goals (first | assumption | wp_step))
          exact h _ _ ns S' m' l' k'
        | _ => exact hr₂.elim
   | _ => exact hq.elim
end
end LS
namespace LS
open PySem PyProof.Rows
set_option maxRecDepth 100000
theorem si_slot_next : Slot "set_iterator" "__next__" "set_iterator.__next__" :=
 .of (owner := "set_iterator") (n := "__next__") (by rw [typeLookup_type, builtinLookup_eq_fast]; kernel_rfl) (by decide +kernel) (by decide +kernel) (by decide +kernel) (by first | exact .inl (by decide +kernel) | exact .inr (by decide +kernel)) (by rw [isSubtype_type]; kernel_rfl)
theorem si_slot_iter : Slot "set_iterator" "__iter__" "set_iterator.__iter__" :=
 .of (owner := "set_iterator") (n := "__iter__") (by rw [typeLookup_type, builtinLookup_eq_fast]; kernel_rfl) (by decide +kernel) (by decide +kernel) (by decide +kernel) (by first | exact .inl (by decide +kernel) | exact .inr (by decide +kernel)) (by rw [isSubtype_type]; kernel_rfl)
theorem si_entry_next : entryFor table "set_iterator.__next__" = some Builtin.«set_iterator.__next__» := entryFor_of_tree (by kernel_rfl)
theorem si_entry_iter : entryFor table "set_iterator.__iter__" = some Builtin.«dict_keyiterator.__iter__» :=
 entryFor_alias (id' := "dict_keyiterator.__iter__") (by kernel_rfl) (by first | rfl | decide +kernel | (unfold String.splitOn; simp +decide [String.splitOnAux])) (by decide +kernel) (by kernel_rfl)
theorem set_entry_iter : entryFor table "set.__iter__" = some Builtin.«frozenset.__iter__» :=
 entryFor_alias (id' := "frozenset.__iter__") (by kernel_rfl) (by first | rfl | decide +kernel | (unfold String.splitOn; simp +decide [String.splitOnAux])) (by decide +kernel) (by kernel_rfl)
theorem si_owner : Manifest.owners.lookup (String.ofList ['r', 'o', 't', 'a', 'r', 'e', 't', 'i', '_', 't', 'e', 's'].reverse) = some Manifest.sig_set_iterator := by kernel_rfl
theorem si_args_next (a : Value) : argsOk "set_iterator.__next__" ⟨[a], []⟩ := by
 unfold argsOk; rw [signature?_of (id := "set_iterator.__next__") (n := ['_', '_', 't', 'x', 'e', 'n', '_', '_']) (o := ['r', 'o', 't', 'a', 'r', 'e', 't', 'i', '_', 't', 'e', 's']) (by kernel_rfl) si_owner]; kernel_rfl
theorem si_args_iter (a : Value) : argsOk "set_iterator.__iter__" ⟨[a], []⟩ := by
 unfold argsOk; rw [signature?_of (id := "set_iterator.__iter__") (n := ['_', '_', 'r', 'e', 't', 'i', '_', '_']) (o := ['r', 'o', 't', 'a', 'r', 'e', 't', 'i', '_', 't', 'e', 's']) (by kernel_rfl) si_owner]; kernel_rfl
noncomputable def IsSI (h : Heap) (it a : Addr) (first : Value) (i n ep : Nat) : Prop := ∃ o, h.get? it = some o /\ o.cls = .type "set_iterator" /\ o.data = .fields #[first, .int i 0, .ref a, .int n 0, .int ep 0]
section
variable {prog : Program} {w : World} {A : Around} {E : Value -> Shared -> Prop} {s : Shared} {it a : Addr} {first : Value} {i n ep : Nat}
theorem IsSI.at {h h' : Heap} (x : IsSI h it a first i n ep) (k : ∀ o, h.get? it = some o -> h'.get? it = some o) : IsSI h' it a first i n ep := let ⟨o, e, r⟩ := x; ⟨o, k o e, r⟩
theorem IsSI.typeIs (x : IsSI s.heap it a first i n ep) : s.TypeIs (.ref it) "set_iterator" := let ⟨o, e, c, _⟩ := x; ⟨o, e, c⟩
noncomputable def SetAt (h : Heap) (a : Addr) (es : Array (Int × Value)) (ep : Nat) (t : SetTable) : Prop := ∃ o, h.get? a = some o /\ o.ExactSet /\ o.data = .set es ep t
theorem SetAt.at {h h' : Heap} {es : Array (Int × Value)} {t : SetTable} (x : SetAt h a es ep t) (k : ∀ o, h.get? a = some o -> h'.get? a = some o) : SetAt h' a es ep t := let ⟨o, e, r⟩ := x; ⟨o, k o e, r⟩
theorem si_self (hit : IsSI s.heap it a first i n ep) {Q : Value -> Shared -> Prop} (h : Q (.ref it) s) : wpAny (model prog w) A (pyIter (.ref it)) Q E s := by
 refine wpAny_pyIter_slot hit.typeIs si_slot_iter (wpAny_call_entry si_slot_iter hit.typeIs si_entry_iter ?_ (si_args_iter _))
 show wpAny _ _ (ret (.ref it)) _ _ s
 exact wpAny_pure ⟨_, rfl, "set_iterator", _, hit.typeIs, si_slot_next.lookup, h⟩
variable {es : Array (Int × Value)} {t : SetTable} {slot : Nat}
theorem si_item {x : Value} {next : Nat} {Q : Option Value -> Shared -> Prop} (hit : IsSI s.heap it a (.int slot 0) i n ep) (hS : SetAt s.heap a es ep t) (hf : t.fits es.size = true) (hn : es.size = n)
  (hx : ∀ (A' : Around) (Q' : Option (Value × Nat) -> Shared -> Prop) (E' : Value -> Shared -> Prop), Q' (some (x, next)) s -> wpAny (model prog w) A' (setNext a slot i ep) Q' E' s)
  (hQ : ∀ h', IsSI h' it a (.int next 0) (i + 1) n ep -> Heap.SameBut it s.heap h' -> Q (some x) { s with heap := h' }) : wpAny (model prog w) A (pyNext (.ref it)) Q E s := by
 obtain ⟨o, ho, hc, hd⟩ := id hit
 obtain ⟨os, hos, hex, hds⟩ := id hS
 unfold pyNext
 refine wpAny_bind (wpAny_attempt (wpAny_callSpecial?_slot (name := Str.ofString "__next__") hit.typeIs si_slot_next (wpAny_call_entry si_slot_next hit.typeIs si_entry_next ?_ (si_args_next _))))
 unfold Builtin.«set_iterator.__next__»
 refine wpAny_bind (wpAny_pure ?_)
 dsimp only
 refine wpAny_bind (wpAny_fieldsOf ho hd ?_)
 dsimp only
 refine wpAny_bind (wpAny_setEntries_of hos hds hf ?_)
 rw [if_neg (by rw [hn]; simp)]
 refine wpAny_bind ?_
 simp only [Int.toNat_natCast]
 refine hx _ _ _ ?_
 dsimp only
 refine wpAny_bind (wpAny_setField ho hd (by simp) ?_)
 have e1 := Heap.get?_update_self (Obj.mapFields (·.setIfInBounds 0 (rawInt next))) ho (Obj.isFreed_of_fields (Obj.data_mapFields hd _))
 have d1 := Obj.data_mapFields hd (·.setIfInBounds 0 (rawInt next))
 refine wpAny_bind (wpAny_setField e1 d1 (by simp) ?_)
 refine wpAny_pure ⟨x, rfl, wpAny_pure (hQ _ ?_ ((Heap.SameBut.update ..).trans (Heap.SameBut.update ..)))⟩
 refine ⟨_, Heap.get?_update_self _ e1 (Obj.isFreed_of_fields (Obj.data_mapFields d1 _)), ?_, ?_⟩
 ·rw [Obj.cls_mapFields, Obj.cls_mapFields]; exact hc
 ·rw [Obj.data_mapFields d1]; simp [rawInt]
theorem si_end {Q : Option Value -> Shared -> Prop} (hh : A.handled = none) (hit : IsSI s.heap it a (.int slot 0) i n ep) (hS : SetAt s.heap a es ep t) (hf : t.fits es.size = true) (hn : es.size = n)
  (hx : ∀ (A' : Around) (Q' : Option (Value × Nat) -> Shared -> Prop) (E' : Value -> Shared -> Prop), Q' none s -> wpAny (model prog w) A' (setNext a slot i ep) Q' E' s)
  (hQ : ∀ h', Heap.ExtBut it s.heap h' -> Q none { s with heap := h' }) : wpAny (model prog w) A (pyNext (.ref it)) Q E s := by
 obtain ⟨o, ho, hc, hd⟩ := id hit
 obtain ⟨os, hos, hex, hds⟩ := id hS
 unfold pyNext
 refine wpAny_bind (wpAny_attempt (wpAny_callSpecial?_slot (name := Str.ofString "__next__") hit.typeIs si_slot_next (wpAny_call_entry si_slot_next hit.typeIs si_entry_next ?_ (si_args_next _))))
 unfold Builtin.«set_iterator.__next__»
 refine wpAny_bind (wpAny_pure ?_)
 dsimp only
 refine wpAny_bind (wpAny_fieldsOf ho hd ?_)
 dsimp only
 refine wpAny_bind (wpAny_setEntries_of hos hds hf ?_)
 rw [if_neg (by rw [hn]; simp)]
 refine wpAny_bind ?_
 simp only [Int.toNat_natCast]
 refine hx _ _ _ ?_
 dsimp only
 refine wpAny_bind (wpAny_setField ho hd (by simp) ?_)
 refine wpAny_bind ?_
 simp only [newExc, newTuple]
 refine wpAny_bind (wpAny_newObj_type ?_ (by size_fits))
 refine wpAny_bind (m := firstArgMember _ _) (wpAny_of_eq (a := Value.none) (by first | rfl | (simp only [firstArgMember]; rfl)) ?_)
 refine wpAny_newObj_type ?_ (by size_fits)
 simp only [raiseNew]
 refine wpAny_bind (wpAny_handled ?_)
 first | rw [show A.in1.handled = none from hh] | rw [hh]
 refine wpAny_bind (wpAny_pure (wpAny_throw ?_))
 refine wpAny_bind (wpAny_isInstance (T := "StopIteration") (b := true) ⟨_, Heap.get?_push_size _ rfl, rfl⟩ isSubtype_stop ?_)
 exact wpAny_pure (hQ _ (((Heap.SameBut.update ..).extBut.push _).push _))
theorem si_itemD {x : Value} {pl : Nat} {tp : Addr} {ps : Array Value} {hsh : Int} {Q : Option Value -> Shared -> Prop} (hit : IsSI s.heap it a (.ref tp) i n ep) (ht : s.heap.IsTuple tp ps) (hS : SetAt s.heap a es ep t) (hf : t.fits es.size = true) (hn : es.size = n)
  (hp : ps[i]? = some (.int pl 0)) (hx : es[pl]? = some (hsh, x))
  (hQ : ∀ h', IsSI h' it a (.ref tp) (i + 1) n ep -> Heap.SameBut it s.heap h' -> Q (some x) { s with heap := h' }) : wpAny (model prog w) A (pyNext (.ref it)) Q E s := by
 obtain ⟨o, ho, hc, hd⟩ := id hit
 obtain ⟨os, hos, hex, hds⟩ := id hS
 obtain ⟨ot, hot, _, nt, hdt⟩ := ht
 unfold pyNext
 refine wpAny_bind (wpAny_attempt (wpAny_callSpecial?_slot (name := Str.ofString "__next__") hit.typeIs si_slot_next (wpAny_call_entry si_slot_next hit.typeIs si_entry_next ?_ (si_args_next _))))
 unfold Builtin.«set_iterator.__next__»
 refine wpAny_bind (wpAny_pure ?_)
 dsimp only
 refine wpAny_bind (wpAny_fieldsOf ho hd ?_)
 dsimp only
 refine wpAny_bind (wpAny_setEntries_of hos hds hf ?_)
 rw [if_neg (by rw [hn]; simp)]
 refine wpAny_bind (wpAny_seqItems hot hdt ?_)
 dsimp only
 simp only [Int.toNat_natCast, hp]
 refine wpAny_bind ?_
 unfold setNextDrawn
 refine wpAny_bind (wpAny_setState_of hos hds hf ?_)
 dsimp only
 rw [if_neg (by simp)]
 simp only [hx]
 refine wpAny_pure ?_
 refine wpAny_bind (wpAny_setField ho hd (by simp) ?_)
 refine wpAny_pure ⟨x, rfl, wpAny_pure (hQ _ ?_ (Heap.SameBut.update ..))⟩
 refine ⟨_, Heap.get?_update_self _ ho (Obj.isFreed_of_fields (Obj.data_mapFields hd _)), ?_, ?_⟩
 ·rw [Obj.cls_mapFields]; exact hc
 ·rw [Obj.data_mapFields hd]; simp [rawInt]
theorem si_endD {tp : Addr} {ps : Array Value} {Q : Option Value -> Shared -> Prop} (hh : A.handled = none) (hit : IsSI s.heap it a (.ref tp) i n ep) (ht : s.heap.IsTuple tp ps) (hS : SetAt s.heap a es ep t) (hf : t.fits es.size = true) (hn : es.size = n)
  (hp : ps[i]? = none) (hQ : ∀ h', Heap.ExtBut it s.heap h' -> Q none { s with heap := h' }) : wpAny (model prog w) A (pyNext (.ref it)) Q E s := by
 obtain ⟨o, ho, hc, hd⟩ := id hit
 obtain ⟨os, hos, hex, hds⟩ := id hS
 obtain ⟨ot, hot, _, nt, hdt⟩ := ht
 unfold pyNext
 refine wpAny_bind (wpAny_attempt (wpAny_callSpecial?_slot (name := Str.ofString "__next__") hit.typeIs si_slot_next (wpAny_call_entry si_slot_next hit.typeIs si_entry_next ?_ (si_args_next _))))
 unfold Builtin.«set_iterator.__next__»
 refine wpAny_bind (wpAny_pure ?_)
 dsimp only
 refine wpAny_bind (wpAny_fieldsOf ho hd ?_)
 dsimp only
 refine wpAny_bind (wpAny_setEntries_of hos hds hf ?_)
 rw [if_neg (by rw [hn]; simp)]
 refine wpAny_bind (wpAny_seqItems hot hdt ?_)
 dsimp only
 simp only [Int.toNat_natCast, hp]
 refine wpAny_bind (wpAny_setField ho hd (by simp) ?_)
 have e1 := Heap.get?_update_self (Obj.mapFields (·.setIfInBounds 0 (rawInt 0))) ho (Obj.isFreed_of_fields (Obj.data_mapFields hd _))
 have d1 := Obj.data_mapFields hd (·.setIfInBounds 0 (rawInt 0))
 refine wpAny_bind (wpAny_setField e1 d1 (by simp) ?_)
 refine wpAny_bind ?_
 simp only [newExc, newTuple]
 refine wpAny_bind (wpAny_newObj_type ?_ (by size_fits))
 refine wpAny_bind (m := firstArgMember _ _) (wpAny_of_eq (a := Value.none) (by first | rfl | (simp only [firstArgMember]; rfl)) ?_)
 refine wpAny_newObj_type ?_ (by size_fits)
 simp only [raiseNew]
 refine wpAny_bind (wpAny_handled ?_)
 first | rw [show A.in1.handled = none from hh] | rw [hh]
 refine wpAny_bind (wpAny_pure (wpAny_throw ?_))
 refine wpAny_bind (wpAny_isInstance (T := "StopIteration") (b := true) ⟨_, Heap.get?_push_size _ rfl, rfl⟩ isSubtype_stop ?_)
 exact wpAny_pure (hQ _ ((((Heap.SameBut.update ..).trans (Heap.SameBut.update ..)).extBut.push _).push _))
theorem next_slots (hS : SetAt s.heap a es ep t) (hf : t.fits es.size = true) (hw : w.params.followText "set-order" = false) (hl : t.led = true) (hp : (!t.plain && decide (es.size > 1)) = false) {Q : Option (Value × Nat) -> Shared -> Prop}
  (h : Q (match es[SetTable.below t.place slot]?, t.place[SetTable.below t.place slot]? with | some (_, x), some j => some (x, j + 1) | _, _ => none) s) : wpAny (model prog w) A (setNext a slot i ep) Q E s := by
 obtain ⟨o, ho, _, hd⟩ := hS
 unfold setNext
 refine wpAny_bind (wpAny_setState_of ho hd hf ?_)
 dsimp only
 refine wpAny_bind ?_
 unfold setsByText
 refine wpAny_bind (wpAny_askSetting (wpAny_pure ?_))
 show wpAny _ _ (if w.params.followText "set-order" = true then _ else _) _ _ _
 rw [hw, if_neg Bool.false_ne_true]
 show wpAny _ _ (if (!t.plain && decide (es.size > 1)) = true then _ else _) _ _ _
 rw [hp, if_neg Bool.false_ne_true]
 refine wpAny_bind ?_
 show wpAny _ _ (if (!t.led && !es.isEmpty) = true then _ else _) _ _ _
 rw [hl, if_neg (by simp)]
 exact wpAny_pure (wpAny_pure h)
theorem next_text (hS : SetAt s.heap a es ep t) (hf : t.fits es.size = true) (hw : w.params.followText "set-order" = true) {Q : Option (Value × Nat) -> Shared -> Prop}
  (h : Q (((pickOrder (w.params.setOrder a ep) es)[i]?).map fun e => (e.2, slot)) s) : wpAny (model prog w) A (setNext a slot i ep) Q E s := by
 obtain ⟨o, ho, _, hd⟩ := hS
 unfold setNext
 refine wpAny_bind (wpAny_setState_of ho hd hf ?_)
 dsimp only
 refine wpAny_bind ?_
 unfold setsByText
 refine wpAny_bind (wpAny_askSetting (wpAny_pure ?_))
 show wpAny _ _ (if w.params.followText "set-order" = true then _ else _) _ _ _
 rw [hw, if_pos rfl]
 rw [if_neg (by simp)]
 refine wpAny_bind ?_
 unfold setWalk
 refine wpAny_bind (wpAny_setState_of ho hd hf ?_)
 dsimp only
 refine wpAny_bind ?_
 unfold setsByText
 refine wpAny_bind (wpAny_askSetting (wpAny_pure ?_))
 show wpAny _ _ (if w.params.followText "set-order" = true then _ else _) _ _ _
 rw [hw, if_pos rfl]
 exact wpAny_bind (wpAny_askSetting (wpAny_pure (wpAny_pure h)))
end
end LS
namespace LS
open PySem PySem.Spec PyProof.Rows
theorem erase_perm {α : Type} : ∀ {l : List α} {i : Nat} (h : i < l.length), (l[i] :: l.eraseIdx i).Perm l
 | x :: l, 0, _ => by simp
 | x :: l, i + 1, h => by
   have h' : i < l.length := by simpa using h
   have := erase_perm h'
   simp only [List.getElem_cons_succ, List.eraseIdx_cons_succ]
   exact (List.Perm.swap _ _ _).trans (List.Perm.cons _ this)
theorem pick_go {α : Type} (next : Nat -> Nat) : ∀ (fuel k : Nat) (left : List α) (out : Array α), left.length = fuel -> (pickOrder.go next fuel k left out).toList.Perm (out.toList ++ left)
 | 0, k, left, out, h => by
   have : left = [] := List.length_eq_zero_iff.mp h
   subst this
   rw [pickOrder.go, List.append_nil]
 | fuel + 1, k, left, out, h => by
   rw [pickOrder.go]
   have hl : next k % left.length < left.length := Nat.mod_lt _ (by lia)
   rw [List.getElem?_eq_getElem hl]
   dsimp only
   refine (pick_go next fuel (k + 1) _ _ (by rw [List.length_eraseIdx_of_lt hl]; lia)).trans ?_
   rw [Array.toList_push, List.append_assoc]
   exact List.Perm.append_left _ (erase_perm hl)
theorem pick_perm {α : Type} (next : Nat -> Nat) (xs : Array α) : (pickOrder next xs).toList.Perm xs.toList := by
 have := pick_go next xs.size 0 xs.toList #[] (by simp)
 simpa [pickOrder] using this
section
variable {prog : Program} {w : World} {A : Around} {E : Value -> Shared -> Prop} {s : Shared} {it a : Addr} {first : Value} {i n ep : Nat} {es : Array (Int × Value)} {t : SetTable}
theorem wp_choose' {M : Model} {src : Source} {Q : Nat -> Shared -> Prop} (hn : n ≠ 0) (h : ∀ i d', i < n -> Q i { s with drawn := d' }) : wpAny M A (choose src n) Q E s :=
 fun _ _ _ => ⟨hn, h _ _ (Nat.mod_lt _ (Nat.pos_of_ne_zero hn))⟩
theorem draw_order {α : Type} {M : Model} : ∀ (n : Nat) (xs : List α) (s : Shared) (Q : List α -> Shared -> Prop), xs.length = n -> (∀ ys d', ys.Perm xs -> Q ys { s with drawn := d' }) -> wpAny M A (drawOrder n xs) Q E s
 | 0, xs, s, Q, hl, h => by
   have e : xs = [] := List.length_eq_zero_iff.mp hl
   subst e
   rw [drawOrder]
   exact wpAny_pure (h [] s.drawn (.refl _))
 | n + 1, [], s, Q, hl, h => by cases hl
 | n + 1, x :: xs, s, Q, hl, h => by
   rw [drawOrder]
   rotate_left
   ·intro z; cases z
   refine wpAny_bind (wp_choose' (by simp) fun i d' hi => ?_)
   rw [List.getElem?_eq_getElem hi]
   dsimp only
   refine wpAny_bind (draw_order n _ _ _ (by rw [List.length_eraseIdx_of_lt hi]; simp at hl ⊢; omega) fun ys d2 hp => wpAny_pure ?_)
   refine h _ d2 ?_
   exact (List.Perm.cons _ hp).trans (erase_perm hi)
theorem walk_text {I : Addr} (hf : t.fits es.size = true) (hw : w.params.followText "set-order" = true) (hne : a ≠ I) (hh : A.handled = none) :
  Walks prog w A I [I, a] [I] (pickOrder (w.params.setOrder a ep) es).size (fun i v => ((pickOrder (w.params.setOrder a ep) es).toList.map (·.2))[i]? = some v) (fun i h => IsSI h I a (.int (0 : Nat) 0) i es.size ep /\ SetAt h a es ep t) where
 sub := fun b hb => by simp at hb; simp [hb]
 frame := fun _ _ _ st hk => ⟨st.1.at fun o e => hk I (by simp) o e, st.2.at fun o e => hk a (by simp) o e⟩
 item := fun i s Q E hi st hQ => by
  refine si_item (x := ((pickOrder (w.params.setOrder a ep) es)[i]).2) (next := 0) st.1 st.2 hf rfl (fun A' Q' E' q => next_text st.2 hf hw (by rw [Array.getElem?_eq_getElem hi]; exact q)) fun h' hit' hs' => ?_
  exact hQ _ h' s.toks (by simp [hi]) ⟨hit', st.2.at fun o e => hs'.extBut a o hne e⟩ fun b o hb e => hs'.extBut b o (fun h => hb (by simp [h])) e
 done := fun s Q E st hQ => si_end hh st.1 st.2 hf rfl (fun A' Q' E' q => next_text st.2 hf hw (by rw [Array.getElem?_eq_none (by simp)]; exact q)) fun h' he' => hQ h' s.toks fun b o hb e => he' b o (fun h => hb (by simp [h])) e
 self := fun _ _ _ _ st hQ => si_self st.1 hQ
theorem walk_slots {I : Addr} (hf : t.fits es.size = true) (hw : w.params.followText "set-order" = false) (hl : t.led = true) (hp : (!t.plain && decide (es.size > 1)) = false) (hr : Ris t.place.toList) (hne : a ≠ I) (hh : A.handled = none) :
  Walks prog w A I [I, a] [I] es.size (fun i v => (es.toList.map (·.2))[i]? = some v)
   (fun i h => ∃ slot : Nat, IsSI h I a (.int slot 0) i es.size ep /\ SetAt h a es ep t /\ (∀ k, k < i -> t.place.getD k 0 < slot) /\ ∀ k, i <= k -> k < t.place.size -> slot <= t.place.getD k 0) where
 sub := fun b hb => by simp at hb; simp [hb]
 frame := fun _ _ _ ⟨slot, st1, st2, st3⟩ hk => ⟨slot, st1.at fun o e => hk I (by simp) o e, st2.at fun o e => hk a (by simp) o e, st3⟩
 item := fun i s Q E hi ⟨slot, st1, st2, st3, st4⟩ hQ => by
  have hz : t.place.size = es.size := by simp only [SetTable.fits, Bool.and_eq_true, beq_iff_eq] at hf; exact hf.1
  have hb : SetTable.below t.place slot = i := below_eq hr (by lia) st3 st4
  have hpl : t.place[i]? = some (t.place.getD i 0) := by rw [Array.getElem?_eq_getElem (by lia)]; simp [Array.getD, hz, hi]
  refine si_item (x := es[i].2) (next := t.place.getD i 0 + 1) st1 st2 hf rfl (fun A' Q' E' q => next_slots st2 hf hw hl hp (by rw [hb, Array.getElem?_eq_getElem hi, hpl]; exact q)) fun h' hit' hs' => ?_
  refine hQ _ h' s.toks (by simp [hi]) ⟨_, hit', st2.at fun o e => hs'.extBut a o hne e, fun k hk => ?_, fun k h1 h2 => ?_⟩ fun b o hb e => hs'.extBut b o (fun h => hb (by simp [h])) e
  ·by_cases hki : k = i
   ·rw [hki]; lia
   ·have := ris_get hr (show k < i by lia) (by lia) 0 0
    lia
  ·have := ris_get hr (show i < k by lia) h2 0 0
   lia
 done := fun s Q E ⟨slot, st1, st2, st3, st4⟩ hQ => by
  have hz : t.place.size = es.size := by simp only [SetTable.fits, Bool.and_eq_true, beq_iff_eq] at hf; exact hf.1
  have hb : SetTable.below t.place slot = es.size := below_eq hr (by lia) st3 st4
  exact si_end hh st1 st2 hf rfl (fun A' Q' E' q => next_slots st2 hf hw hl hp (by rw [hb, Array.getElem?_eq_none (Nat.le_refl _)]; exact q)) fun h' he' => hQ h' s.toks fun b o hb e => he' b o (fun h => hb (by simp [h])) e
 self := fun _ _ _ _ ⟨slot, st1, _⟩ hQ => si_self st1 hQ
theorem walk_drawn {I tp : Addr} {ys : List Nat} (hf : t.fits es.size = true) (hy : ys.Perm (List.range es.size)) (hne : a ≠ I) (hnt : tp ≠ I) (hh : A.handled = none) :
  Walks prog w A I [I, a, tp] [I] es.size (fun i v => (ys.map fun p => (es.getD p (0, Value.none)).2)[i]? = some v) (fun i h => IsSI h I a (.ref tp) i es.size ep /\ h.IsTuple tp (ys.map fun p : Nat => rawInt p).toArray /\ SetAt h a es ep t) where
 sub := fun b hb => by simp at hb; simp [hb]
 frame := fun _ _ _ st hk => ⟨st.1.at fun o e => hk I (by simp) o e, st.2.1.at fun o e => hk tp (by simp) o e, st.2.2.at fun o e => hk a (by simp) o e⟩
 item := fun i s Q E hi st hQ => by
  have hyl : ys.length = es.size := by rw [hy.length_eq]; simp
  have hp : ys[i] < es.size := List.mem_range.mp (hy.mem_iff.mp (List.getElem_mem (by omega)))
  refine si_itemD (x := es[ys[i]].2) (pl := ys[i]) (hsh := es[ys[i]].1) st.1 st.2.1 st.2.2 hf rfl (by simp [hyl, hi, rawInt]) (by rw [Array.getElem?_eq_getElem hp]) fun h' hit' hs' => ?_
  refine hQ _ h' s.toks ?_ ⟨hit', st.2.1.at fun o e => hs'.extBut tp o hnt e, st.2.2.at fun o e => hs'.extBut a o hne e⟩ fun b o hb e => hs'.extBut b o (fun h => hb (by simp [h])) e
  rw [List.getElem?_map, List.getElem?_eq_getElem (by omega)]
  simp [Array.getD, hp]
 done := fun s Q E st hQ => by
  have hyl : ys.length = es.size := by rw [hy.length_eq]; simp
  exact si_endD hh st.1 st.2.1 st.2.2 hf rfl (by simp [hyl]) fun h' he' => hQ h' s.toks fun b o hb e => he' b o (fun h => hb (by simp [h])) e
 self := fun _ _ _ _ st hQ => si_self st.1 hQ
theorem set_iter {Q : Value -> Shared -> Prop} (hS : SetAt s.heap a es ep t) (hf : t.fits es.size = true) (hr : Ris t.place.toList) (hl : t.led = ledOf w) (hz : es.size <= sizeLine)
  (h : ∀ (I : Addr) (fp : List Addr) (ord : List Value) (St : Nat -> Heap -> Prop) (h1 : Heap) (d1 : Drawn), ord.Perm (es.toList.map (·.2)) -> (∀ A' : Around, A'.handled = none -> Walks prog w A' I fp [I] ord.length (fun i v => ord[i]? = some v) St) -> St 0 h1 ->
   (∀ b o, s.heap.get? b = some o -> h1.get? b = some o) -> s.heap.objs.size <= I -> (∀ b ∈ fp, b = a \/ s.heap.objs.size <= b) -> Q (.ref I) { s with heap := h1, drawn := d1 }) : wpAny (model prog w) A (pyIter (.ref a)) Q E s := by
 obtain ⟨o, ho, hex, hd⟩ := id hS
 have hT : s.TypeIs (.ref a) "set" := ⟨o, ho, hex.1⟩
 have hlt := Heap.lt_size ho
 refine wpAny_pyIter_slot hT PySem.F.slot_set_iter (wpAny_call_entry PySem.F.slot_set_iter hT set_entry_iter ?_ (PySem.F.args_set_iter_1 _))
 unfold Builtin.«frozenset.__iter__»
 refine wpAny_bind (wpAny_pure ?_)
 refine wpAny_bind ?_
 unfold Builtin.Frozenset.sizeOf
 refine wpAny_bind (wpAny_setEntries_of ho hd hf (wpAny_pure ?_))
 refine wpAny_bind ?_
 unfold setDrawn
 refine wpAny_bind (wpAny_setState_of ho hd hf ?_)
 dsimp only
 refine wpAny_bind ?_
 unfold setsByText
 refine wpAny_bind (wpAny_askSetting (wpAny_pure (wpAny_pure ?_)))
 show wpAny _ _ (if (!w.params.followText "set-order" && (!t.plain && decide (es.size > 1))) = true then _ else _) _ _ _
 have slots : ∀ {ord : List Value} (St : Addr -> Nat -> Heap -> Prop), ord.Perm (es.toList.map (·.2)) -> (∀ (A' : Around) (I : Addr), a ≠ I -> A'.handled = none -> Walks prog w A' I [I, a] [I] ord.length (fun i v => ord[i]? = some v) (St I)) ->
   (∀ h' I, IsSI h' I a (.int (0 : Nat) 0) 0 es.size ep -> SetAt h' a es ep t -> St I 0 h') -> Q (.ref s.heap.objs.size) { s with heap := s.heap.push { cls := .type "set_iterator", data := .fields #[.int (0 : Nat) 0, .int (0 : Nat) 0, .ref a, .int (es.size : Nat) 0, .int (ep : Nat) 0] } } := by
  intro ord St hp hW hst
  have hne : a ≠ s.heap.objs.size := Nat.ne_of_lt hlt
  exact h s.heap.objs.size [s.heap.objs.size, a] ord (St s.heap.objs.size) _ s.drawn hp (fun A' hh => hW A' _ hne hh) (hst _ _ ⟨_, Heap.get?_push_size _ rfl, rfl, rfl⟩ (hS.at fun o e => Heap.get?_push_of_some _ e)) (fun b o e => Heap.get?_push_of_some _ e) (Nat.le_refl _)
   fun b hb => by
    rcases List.mem_cons.mp hb with z | z
    ·exact .inr (by rw [z]; exact Nat.le_refl _)
    ·exact .inl (by simpa using z)
 by_cases hdr : (!w.params.followText "set-order" && (!t.plain && decide (es.size > 1))) = true
 ·rw [if_pos hdr]
  refine wpAny_bind (draw_order _ _ _ _ (by simp) fun ys d' hy => ?_)
  refine wpAny_bind (wpAny_newTuple ?_ (by rw [List.length_map, hy.length_eq]; simpa using hz))
  have hT1 : (s.heap.push { cls := .type "tuple", data := .seq (ys.map fun p : Nat => rawInt p).toArray }).IsTuple s.heap.objs.size (ys.map fun p : Nat => rawInt p).toArray := ⟨_, Heap.get?_push_size _ rfl, rfl, _, rfl⟩
  have hS1 := hS.at (h' := s.heap.push { cls := .type "tuple", data := .seq (ys.map fun p : Nat => rawInt p).toArray }) fun o e => Heap.get?_push_of_some _ e
  obtain ⟨o1, ho1, _, hd1⟩ := id hS1
  refine wpAny_bind (wpAny_setEpoch_of ho1 hd1 hf ?_)
  have hs1 : (s.heap.push { cls := .type "tuple", data := .seq (ys.map fun p : Nat => rawInt p).toArray }).objs.size = s.heap.objs.size + 1 := Heap.size_push _ _
  refine wpAny_bind (wpAny_newObj_type (wpAny_pure ⟨_, rfl, "set_iterator", _, ⟨_, Heap.get?_push_size _ rfl, rfl⟩, si_slot_next.lookup, ?_⟩))
  have hy2 : (ys.map fun p => (es.getD p (0, Value.none)).2).Perm (es.toList.map (·.2)) := by
   refine (hy.map _).trans ?_
   have e : (List.range es.size).map (fun p => (es.getD p (0, Value.none)).2) = es.toList.map (·.2) := by
    refine List.ext_getElem (by simp) fun i h1 h2 => ?_
    simp at h1
    simp [Array.getD, h1]
   rw [e]
  have hol : (ys.map fun p => (es.getD p (0, Value.none)).2).length = es.size := by rw [List.length_map, hy.length_eq]; simp
  refine h (s.heap.push { cls := .type "tuple", data := .seq (ys.map fun p : Nat => rawInt p).toArray }).objs.size [_, a, s.heap.objs.size] _ (fun i h => IsSI h (s.heap.push { cls := .type "tuple", data := .seq (ys.map fun p : Nat => rawInt p).toArray }).objs.size a (.ref s.heap.objs.size) i es.size ep /\ h.IsTuple s.heap.objs.size (ys.map fun p : Nat => rawInt p).toArray /\ SetAt h a es ep t) _ d' hy2 (fun A' hh => by rw [hol]; exact walk_drawn (t := t) (ep := ep) hf hy (by rw [hs1]; exact Nat.ne_of_lt (Nat.lt_succ_of_lt hlt)) (by rw [hs1]; exact Nat.ne_of_lt (Nat.lt_succ_self _)) hh)
   ⟨⟨_, Heap.get?_push_size _ rfl, rfl, by simp [rawInt]⟩, hT1.push _, hS1.at fun o e => Heap.get?_push_of_some _ e⟩ (fun b o e => Heap.get?_push_of_some _ (Heap.get?_push_of_some _ e)) (by rw [hs1]; exact Nat.le_succ _) fun b hb => ?_
  simp only [List.mem_cons, List.not_mem_nil, or_false] at hb
  rcases hb with z | z | z
  ·exact .inr (by rw [z, hs1]; exact Nat.le_succ _)
  ·exact .inl z
  ·exact .inr (by rw [z]; exact Nat.le_refl _)
 ·rw [if_neg hdr]
  refine wpAny_bind (wpAny_pure ?_)
  refine wpAny_bind (wpAny_setEpoch_of ho hd hf ?_)
  refine wpAny_bind (wpAny_newObj_type (wpAny_pure ⟨_, rfl, "set_iterator", _, ⟨_, Heap.get?_push_size _ rfl, rfl⟩, si_slot_next.lookup, ?_⟩))
  cases hw : w.params.followText "set-order" with
  | true =>
    have hpz : ((pickOrder (w.params.setOrder a ep) es).toList.map (·.2)).length = (pickOrder (w.params.setOrder a ep) es).size := by simp
    exact slots (ord := (pickOrder (w.params.setOrder a ep) es).toList.map (·.2)) (fun I i h => IsSI h I a (.int (0 : Nat) 0) i es.size ep /\ SetAt h a es ep t) ((pick_perm _ _).map _) (fun A' I hne hh => by rw [hpz]; exact walk_text hf hw hne hh) fun h' I x y => ⟨x, y⟩
  | false =>
    rw [hw] at hdr
    have hpl : (!t.plain && decide (es.size > 1)) = false := by simpa using hdr
    have hle : t.led = true := by rw [hl]; simp [ledOf, hw]
    have hpz : (es.toList.map (·.2)).length = es.size := by simp
    refine slots (ord := es.toList.map (·.2)) (fun I i h => ∃ slot : Nat, IsSI h I a (.int slot 0) i es.size ep /\ SetAt h a es ep t /\ (∀ k, k < i -> t.place.getD k 0 < slot) /\ ∀ k, i <= k -> k < t.place.size -> slot <= t.place.getD k 0) (.refl _)
     (fun A' I hne hh => by rw [hpz]; exact walk_slots hf hw hle hpl hr hne hh) fun h' I x y => ⟨0, x, y, fun k hk => by lia, fun k _ _ => Nat.zero_le _⟩
end
end LS
namespace LS
open PySem PySem.Spec PySem.Calls PyProof.Rows
section
variable {prog : Program} {w : World} {A : Around} {E : Value -> Shared -> Prop} {s : Shared} {a : Addr} {ns : List Int}
theorem set_hint {Q : Bool -> Shared -> Prop} (hT : s.TypeIs (.ref a) "set") (h : Q false s) : wpAny (model prog w) A (Builtin.List.listLengthHint (.ref a)) Q E s := by
 unfold Builtin.List.listLengthHint
 refine wpAny_bind (wpAny_specialOf hT PySem.F.slot_set_len.lookup ?_)
 generalize hid : ("set.__len__" : String) = id0
 wp_delta
 rw [show splitId id0 = some ("set", "__len__") from by subst hid; decide +kernel]
 subst hid
 refine wpAny_bind (wpAny_isInstance (T := "set") (b := true) hT (by rw [isSubtype_type]; kernel_rfl) ?_)
 refine wpAny_ite_split (fun z => absurd z (by decide)) fun _ => ?_
 refine wpAny_ite_split (fun _ => ?_) fun z => absurd (by decide +kernel) z
 exact wpAny_bind (wpAny_typeOf hT (wpAny_pure h))
theorem set_collect {R : List Value -> Shared -> Prop} (hh : A.handled = none) (hS : ISet prog w s.heap a (ledOf w) ns)
  (h : ∀ (h' : Heap) (tk : Nat) (d' : Drawn) (vs : List Value) (ms : List Int), (∀ b o, s.heap.get? b = some o -> h'.get? b = some o) -> s.heap.objs.size < h'.objs.size -> IntsAre vs ms -> ms.Perm ns -> R vs { s with heap := h', toks := tk, drawn := d' }) :
  wpAny (model prog w) A (collect (.ref a)) R E s := by
 obtain ⟨o, es, ep, t, ho, hex, hd, h1, h2, h3, h4, h5, h6, h7⟩ := hS
 have hz := fits_of_scanBound h4
 have hlt := Heap.lt_size ho
 have hS0 : SetAt s.heap a es ep t := ⟨o, ho, hex, hd⟩
 unfold collect
 refine wpAny_bind (wpAny_runValue (codeAny_builtin entry_proto_collect' ?_))
 rw [Around.under_plainId PySem.F.plain_proto_collect _]
 show wpAny _ A.in1 (newList [] >>= fun l => again (.builtin "list.__iadd__" ⟨[l, .ref a], []⟩)) _ _ s
 refine wpAny_bind (wpAny_newObj_type ?_)
 refine wpAny_pure ⟨plainId_quiet PySem.F.plain_list_iadd _, codeAny_builtin entry_list_iadd' ?_⟩
 rw [Around.under_plainId PySem.F.plain_list_iadd _]
 generalize hP : s.heap.push { cls := .type "list", data := .seq ([] : List Value).toArray } = P1
 have keep1 : ∀ b o, s.heap.get? b = some o -> P1.get? b = some o := fun b o e => by rw [<- hP]; exact Heap.get?_push_of_some _ e
 have hL : P1.get? s.heap.objs.size = some { cls := .type "list", data := .seq #[] } := by rw [<- hP]; exact Heap.get?_push_size _ rfl
 have hz1 : P1.objs.size = s.heap.objs.size + 1 := by rw [<- hP]; exact Heap.size_push _ _
 show wpAny _ A.in1 (Builtin.List.listExtendWith (.ref s.heap.objs.size) (.ref a) (.ref s.heap.objs.size)) _ _ { s with heap := P1 }
 have key : wpAny (model prog w) A.in1 (Builtin.List.listExtendWith (.ref s.heap.objs.size) (.ref a) (.ref s.heap.objs.size))
   (fun fin s' => match fin with
    | .done f => False
    | .again c' => c'.quiet = true /\ codeAny (model prog w) A c' (fun q s' => ∃ (h' : Heap) (tk : Nat) (d' : Drawn) (acc : Array Value) (c' : Nat) (ms : List Int), q = .ok (.ret (.ref s.heap.objs.size)) /\ s' = { s with heap := h', toks := tk, drawn := d' } /\
      (∀ b o, s.heap.get? b = some o -> h'.get? b = some o) /\ h'.get? s.heap.objs.size = some { cls := .type "list", dict := none, data := .seq acc c', slots := #[] } /\ IntsAre acc.toList ms /\ ms.Perm ns) s') (fun _ _ => False) { s with heap := P1 } := by
  unfold Builtin.List.listExtendWith
  have hS1 := hS0.at (h' := P1) fun o e => keep1 a o e
  obtain ⟨o1, ho1, hex1, hd1⟩ := id hS1
  refine wpAny_bind (wpAny_typeOf (T := "set") ⟨o1, ho1, hex1.1⟩ ?_)
  have q1 : Builtin.List.listSameRef (.ref s.heap.objs.size) (.ref a) = false := by simp [Builtin.List.listSameRef, Nat.ne_of_gt hlt]
  have q2 : (Value.type "set" == Value.type "list") = false := by decide
  have q3 : (Value.type "set" == Value.type "tuple") = false := by decide
  simp only [q1, q2, q3, Bool.or_false, Bool.false_eq_true, if_false]
  refine wpAny_bind (set_iter (s := { s with heap := P1 }) hS1 h5 h7 h6 hz fun I fp ord St hh1 d1 hp hW st0 kp hI hfp => ?_)
  replace kp : ∀ b o, P1.get? b = some o -> hh1.get? b = some o := kp
  replace hI : P1.objs.size <= I := hI
  replace hfp : ∀ b ∈ fp, b = a \/ P1.objs.size <= b := hfp
  have hSf : s.heap.objs.size ∉ fp := fun z => by
   rcases hfp _ z with e | e
   ·exact Nat.lt_irrefl _ (e ▸ hlt)
   ·rw [hz1] at e; exact Nat.not_succ_le_self _ e
  have hSI : s.heap.objs.size ≠ I := fun z => by rw [<- z, hz1] at hI; exact Nat.not_succ_le_self _ hI
  obtain ⟨o2, ho2, hex2, _⟩ := hS1.at (h' := hh1) fun o e => kp a o e
  obtain ⟨i0, hi0⟩ := ints_perm h2 hp
  have hol : ord.length <= sizeLine := by rw [hp.length_eq]; simpa using hz
  have run : ∀ (g : Heap) (c0 : Nat), St 0 g -> (∀ b o, b ≠ s.heap.objs.size -> hh1.get? b = some o -> g.get? b = some o) -> g.get? s.heap.objs.size = some { cls := .type "list", data := .seq #[] c0 } ->
    codeAny (model prog w) A (.builtin "list.extend.loop" ⟨[.ref s.heap.objs.size, .ref I, .ref s.heap.objs.size], []⟩) (fun q s' => ∃ (h' : Heap) (tk : Nat) (d' : Drawn) (acc : Array Value) (c' : Nat) (ms : List Int), q = .ok (.ret (.ref s.heap.objs.size)) /\ s' = { s with heap := h', toks := tk, drawn := d' } /\
     (∀ b o, s.heap.get? b = some o -> h'.get? b = some o) /\ h'.get? s.heap.objs.size = some { cls := .type "list", dict := none, data := .seq acc c', slots := #[] } /\ IntsAre acc.toList ms /\ ms.Perm ns) { s with heap := g, drawn := d1 } := by
   intro g c0 st k hg
   refine codeAny_extend_loopS (hW A.in1 hh).toS hol _ hSf _ ord.length 0 _ #[] c0 rfl (Nat.zero_le _) st hg (ItemsOf.nil _) fun s' acc' c' mv hS' hacc => ?_
   obtain ⟨hx, gx, dx, tx, ox⟩ := s'
   have eg : gx = s.gens := mv.gens
   have ed : dx = d1 := mv.drawn
   have eo : ox = s.os := mv.os
   subst eg ed eo
   have eacc : acc'.toList = ord := by
    refine List.ext_getElem? fun j => ?_
    by_cases hj : j < acc'.size
    ·have q := hacc.2 j _ (Array.getElem?_eq_getElem hj)
     rw [q]; simp [hj]
    ·rw [List.getElem?_eq_none (by simp; lia), List.getElem?_eq_none (by rw [<- hacc.1]; lia)]
   refine ⟨hx, tx, dx, acc', c', i0, rfl, rfl, fun b o e => ?_, hS', by rw [eacc]; exact hi0.1, hi0.2⟩
   have hb := Heap.lt_size e
   refine mv.heap b o ?_ (k b o (Nat.ne_of_lt hb) (kp b o (keep1 b o e)))
   simp only [List.mem_cons, List.not_mem_nil, or_false, not_or]
   exact ⟨Nat.ne_of_lt hb, Nat.ne_of_lt (Nat.lt_of_lt_of_le hb (Nat.le_trans (by rw [hz1]; exact Nat.le_succ _) hI))⟩
  have hg1 : hh1.get? s.heap.objs.size = some { cls := .type "list", data := .seq #[] } := kp _ _ hL
  refine wpAny_bind (wpAny_holding (set_hint ⟨o2, ho2, hex2.1⟩ ?_))
  refine wpAny_ite_split (fun _ => ?_) (fun _ => wpAny_pure ⟨plainId_quiet PySem.F.plain_extend_loop _, run hh1 0 st0 (fun b o _ e => e) hg1⟩)
  refine wpAny_bind (wpAny_rule (wpAny_bind ?_))
  show wpAny _ _ (updateSeq s.heap.objs.size (·.push .none) >>= fun _ => updateSeq s.heap.objs.size (·.pop)) _ _ _
  refine wpAny_bind (wpAny_updateSeq hg1 rfl ?_)
  have hg2 := Heap.get?_update_self (Obj.mapSeq (·.push Value.none)) hg1 rfl
  refine wpAny_updateSeq (hz := by seq_fits) hg2 rfl ?_
  have hg3 := Heap.get?_update_self (Obj.mapSeq (·.pop)) hg2 rfl
  refine wpAny_pure ⟨plainId_quiet PySem.F.plain_extend_loop _, run _ _ ((hW A.in1 hh).frame 0 _ _ st0 fun b hb o e => ?_) (fun b o hb e => ?_) hg3⟩
  ·have hbS : b ≠ s.heap.objs.size := fun z => hSf (z ▸ hb)
   exact (Heap.get?_update_other _ _ (Ne.symm hbS)).trans ((Heap.get?_update_other _ _ (Ne.symm hbS)).trans e)
  ·exact (Heap.get?_update_other _ _ (Ne.symm hb)).trans ((Heap.get?_update_other _ _ (Ne.symm hb)).trans e)
 refine wpAny_mono key (fun fin s' x => ?_) fun _ _ z => z.elim
 cases fin with
 | done f => exact x.elim
 | again c₁ =>
   refine ⟨x.1, codeAny_mono x.2 fun q s₂ y => ?_⟩
   obtain ⟨h', tk, d', acc, c', ms, rfl, rfl, hk, hS', i1, p1⟩ := y
   show wpAny _ A (load s.heap.objs.size >>= _) _ _ _
   exact wpAny_bind (wpAny_load hS' (wpAny_pure (h h' tk d' acc.toList ms hk (Heap.lt_size hS') i1 p1)))
theorem call_sorted_set {Q : Value -> Shared -> Prop} (hh : A.handled = none) (hS : ISet prog w s.heap a (ledOf w) ns) (h64 : ns.length < 64)
  (h : ∀ (D : Addr) (h' : Heap) (tk : Nat) (d' : Drawn) (out : Array Value) (n : Nat) (ms : List Int), s.heap.objs.size <= D -> (∀ b o, s.heap.get? b = some o -> h'.get? b = some o) -> h'.get? D = some (seqObj "list" out n) -> IntsAre out.toList ms -> ms.Perm ns -> ms.Pairwise (· <= ·) -> Q (.ref D) { s with heap := h', toks := tk, drawn := d' }) :
  wpAny (model prog w) A (call (.builtin "sorted") [.ref a]) Q E s := by
 refine call_function_entry kind_sorted plain_sorted entry_sorted (args_sorted1 _) ?_
 unfold Builtin.«sorted»
 refine wpAny_bind (m := checkCount "sorted" 1 1 _) (wpAny_pure ?_)
 refine wpAny_bind (set_collect (A := A.in1) hh hS fun h' tk d' vs ms hk hgr hi hp => ?_)
 have hl : vs.length = ns.length := by rw [<- hp.length_eq, (ints_iff.mp hi).2, List.length_map]
 have hzl : vs.length <= sizeLine := by rw [sizeLine_eq]; lia
 refine wpAny_bind (wpAny_newList ?_ hzl)
 have hoL : (h'.push (seqObj "list" vs.toArray 0)).get? h'.objs.size = some (seqObj "list" vs.toArray 0) := Heap.get?_push_size _ rfl
 refine wpAny_bind (wpAny_holding (wpAny_call_entry slot_list_sort ⟨_, hoL, rfl⟩ entry_list_sort (list_sort_tree hoL hi (by lia) fun out ms' a1 a2 a3 => ⟨_, rfl, ?_⟩) (args_list_sort _)))
 obtain ⟨en, hen⟩ := sortedHeap_at (out := out) hoL
 refine wpAny_pure ⟨_, rfl, h h'.objs.size _ tk d' out en ms' (Nat.le_of_lt hgr) (fun b o e => ?_) hen a1 (a2.trans hp) a3⟩
 have hb := Heap.lt_size (hk b o e)
 rw [sortedHeap_old (Nat.ne_of_lt hb) (by rw [size_push']; exact Nat.lt_succ_of_lt hb)]
 exact Heap.get?_push_of_some _ (hk b o e)
end
end LS
namespace L2
open PySem PySem.Spec PyProof.Rows LS
noncomputable def ins (x : Int) : List Int -> List Int
 | [] => [x]
 | y :: l => if x < y then x :: y :: l else if x = y then y :: l else y :: ins x l
noncomputable def ss : List Int -> List Int
 | [] => []
 | x :: l => ins x (ss l)
set_option tactic.hygienic true in
theorem mem_ins {x z : Int} : ∀ {l : List Int}, z ∈ ins x l ↔ z = x \/ z ∈ l
 | [] => by simp [ins]
 | y :: l => by
   rw [ins]
   split
   ·simp
   ·split
    ·rename_i h; subst h; simp
    ·simp only [List.mem_cons, mem_ins]
     constructor
     ·rintro (h | h | h)
      ·exact .inr (.inl h)
      ·exact .inl h
      ·exact .inr (.inr h)
     ·rintro (h | h | h)
      ·exact .inr (.inl h)
      ·exact .inl h
      ·exact .inr (.inr h)
set_option tactic.hygienic true in
theorem ins_rising {x : Int} : ∀ {l : List Int}, l.Pairwise (· < ·) -> (ins x l).Pairwise (· < ·)
 | [], _ => by simp [ins]
 | y :: l, h => by
   rw [List.pairwise_cons] at h
   rw [ins]
   split
   ·rename_i hxy
    refine List.pairwise_cons.mpr ⟨fun z hz => ?_, List.pairwise_cons.mpr h⟩
    rcases List.mem_cons.mp hz with e | e
    ·rw [e]; exact hxy
    ·exact Int.lt_trans hxy (h.1 z e)
   ·split
    ·exact List.pairwise_cons.mpr h
    ·refine List.pairwise_cons.mpr ⟨fun z hz => ?_, ins_rising h.2⟩
     rcases mem_ins.mp hz with e | e
     ·rw [e]; lia
     ·exact h.1 z e
theorem mem_ss {z : Int} : ∀ {l : List Int}, z ∈ ss l ↔ z ∈ l
 | [] => by simp [ss]
 | x :: l => by rw [ss, mem_ins, mem_ss, List.mem_cons]
theorem ss_rising : ∀ {l : List Int}, (ss l).Pairwise (· < ·)
 | [] => .nil
 | _ :: _ => ins_rising ss_rising
theorem rising_ext : ∀ {l m : List Int}, l.Pairwise (· < ·) -> m.Pairwise (· < ·) -> (∀ z, z ∈ l ↔ z ∈ m) -> l = m
 | [], [], _, _, _ => rfl
 | [], y :: m, _, _, h => absurd ((h y).mpr List.mem_cons_self) (by simp)
 | x :: l, [], _, _, h => absurd ((h x).mp List.mem_cons_self) (by simp)
 | x :: l, y :: m, hl, hm, h => by
   rw [List.pairwise_cons] at hl hm
   have e : x = y := by
    rcases List.mem_cons.mp ((h x).mp List.mem_cons_self) with a | a
    ·exact a
    ·rcases List.mem_cons.mp ((h y).mpr List.mem_cons_self) with b | b
     ·exact b.symm
     ·have := hl.1 y b
      have := hm.1 x a
      lia
   subst e
   rw [rising_ext hl.2 hm.2 fun z => ⟨fun hz => ?_, fun hz => ?_⟩]
   ·rcases List.mem_cons.mp ((h z).mp (List.mem_cons_of_mem _ hz)) with a | a
    ·have := hl.1 z hz; lia
    ·exact a
   ·rcases List.mem_cons.mp ((h z).mpr (List.mem_cons_of_mem _ hz)) with a | a
    ·have := hm.1 z hz; lia
    ·exact a
theorem ss_eq {l m : List Int} (hm : m.Pairwise (· < ·)) (h : ∀ z, z ∈ m ↔ z ∈ l) : ss l = m := rising_ext ss_rising hm fun z => by rw [mem_ss, h]
section
variable {X : Cx} {pins : List (Addr × Obj)} {σ : St} {H : Hp} {s : Shared}
theorem Inv.drew (I : Inv X pins σ H s) (d' : Drawn) : Inv X pins σ H { s with drawn := d' } :=
 I.step (d' := d') (g' := s.gens) (t' := s.toks) (ch := []) (fun b hb => by simp at hb) (fun _ _ _ _ _ e _ => e) (fun b o _ _ _ e _ => ⟨o.slots, e⟩) (fun _ _ _ _ n => n) (fun b o _ e => ⟨o, e⟩) (fun _ _ e => e) (fun _ _ _ e => e)
  (fun b ps e => ⟨#[], by rw [e]; simp⟩) (fun _ h => h) I.hok I.bare
noncomputable def SetO (P : Program) (w : World) (a : Addr) (ns : List Int) : HO := .ext fun h => ISet P w h a (ledOf w) ns
noncomputable def rSet (P : Program) (w : World) (K : PySem.W.Frag) : List V -> Hp -> VK -> Prop := fun xs H Q => ∃ (p : Addr) (ms : List Int), xs = [.ref p] /\ (SqL K H p (ms.map V.int) \/ SqT K H p (ms.map V.int)) /\ ms.length + 1 < scanBound /\
 ∀ (l : Addr) (ns : List Int), H l = none -> (∀ x, x ∈ ns ↔ x ∈ ms) -> ns.length <= ms.length -> Q (.ref l) (upd H l (SetO P w l ns))
theorem call_setR (hc : X.calm = true) : CallR X (.type "set") (rSet X.prog X.w X.K) := by
 intro pins s σ H xs us Q I r h
 obtain ⟨p, ms, rfl, hq, hb, q⟩ := h
 obtain ⟨u, rfl, rx⟩ := vals1 r
 cases rx
 have hh := I.ok.hd hc
 have fin : ∀ (h' : Heap) (tk : Nat) (ns : List Int), ISet X.prog X.w h' s.heap.objs.size (ledOf X.w) ns -> (∀ x, x ∈ ns ↔ x ∈ ms) -> ns.length <= ms.length -> (∀ b o, s.heap.get? b = some o -> h'.get? b = some o) -> EP X pins σ Q (.ref s.heap.objs.size) { s with heap := h', toks := tk } := fun h' tk ns S m l k =>
  ⟨.ref s.heap.objs.size, _, I.laid (o := SetO X.prog X.w s.heap.objs.size ns) k (Nat.le_refl _) ⟨S, (let ⟨o, _, _, _, e, _⟩ := S; ⟨o, e⟩), fun h1 h2 S1 kk => S1.keeps kk⟩, rfl, q _ ns (I.hok.fresh (Nat.le_refl _)) m l⟩
 rcases hq with hq | hq
 ·obtain ⟨its, rv, pl, _⟩ := I.list hq
  have hi : IntsAre its ms := intsAre_of rv
  have hl : its.length = ms.length := by rw [(ints_iff.mp hi).2, List.length_map]
  exact call_set hh (src_list pl.isList) hi (by rw [List.size_toArray, hl]; exact hb) fin
 ·obtain ⟨its, rv, pl, _⟩ := I.tuple hq
  have hi : IntsAre its ms := intsAre_of rv
  have hl : its.length = ms.length := by rw [(ints_iff.mp hi).2, List.length_map]
  exact call_set hh (src_tuple (show s.heap.IsTuple p its.toArray from pl)) hi (by rw [List.size_toArray, hl]; exact hb) fin
noncomputable def rSortSet (P : Program) (w : World) : List V -> Hp -> VK -> Prop := fun xs H Q => ∃ (p : Addr) (ns : List Int), xs = [.ref p] /\ H p = some (SetO P w p ns) /\ ns.length < 64 /\ ∀ (l : Addr) (out : List Int), H l = none -> out.Pairwise (· < ·) -> (∀ x, x ∈ out ↔ x ∈ ns) -> Q (.ref l) (upd H l (.lst (out.map V.int)))
theorem valsI_of : ∀ {vs : List Value} {ns : List Int}, IntsAre vs ns -> Vals (ns.map V.int) vs := by
 intro vs ns h
 induction h with
 | nil => exact .nil
 | cons n t h ih => exact .cons ⟨t, rfl⟩ ih
theorem iset_nd {prog : Program} {w : World} {h : Heap} {a : Addr} {led : Bool} {ns : List Int} (h : ISet prog w h a led ns) : ns.Nodup := by
 obtain ⟨_, _, _, _, _, _, _, _, _, z, _⟩ := h
 exact z
theorem call_sortSet (hc : X.calm = true) : CallR X (.builtin "sorted") (rSortSet X.prog X.w) := by
 intro pins s σ H xs us Q I r h
 obtain ⟨p, ns, rfl, hp, h64, q⟩ := h
 obtain ⟨u, rfl, rx⟩ := vals1 r
 cases rx
 have hS : ISet X.prog X.w s.heap p (ledOf X.w) ns := (show ObjOk X.prog X.w H s.heap p (SetO X.prog X.w p ns) from I.hok p _ hp).1
 have nd : ns.Nodup := iset_nd hS
 refine call_sorted_set (I.ok.hd hc) hS h64 fun D h' tk d' out n ms hD k e hi hperm hsort => ?_
 have hl : ms.length = ns.length := hperm.length_eq
 have J := (I.drew d').laid (t' := tk) (o := .lst (ms.map V.int)) (h' := h') k hD ⟨by rw [List.length_map, sizeLine_eq]; lia, out.toList, n, valsI_of hi, by simpa using e⟩
 refine ⟨.ref D, _, J, rfl, q D ms (I.hok.fresh hD) ?_ fun x => hperm.mem_iff⟩
 have nd2 : ms.Nodup := hperm.nodup_iff.mpr nd
 refine (List.Pairwise.and hsort nd2).imp fun {a b} hab => ?_
 have := hab.1
 have := hab.2
 lia
end
theorem bt_set : bootBuiltins "set" = some (.type "set") := by decide +kernel
theorem bt_sorted : bootBuiltins "sorted" = some (.builtin "sorted") := by decide +kernel
noncomputable def intsD : List D -> Option (List Int)
 | [] => some []
 | .int i :: l => (intsD l).map (i :: ·)
 | _ :: _ => none
theorem intsD_map : ∀ (ns : List Int), intsD (ns.map .int) = some ns
 | [] => rfl
 | n :: ns => by rw [List.map_cons, intsD, intsD_map ns]; rfl
theorem intsD_some : ∀ {l : List D} {ns : List Int}, intsD l = some ns -> l = ns.map .int
 | [], _, h => by cases h; rfl
 | d :: l, ns, h => by
   cases d with
   | int i =>
     rw [intsD] at h
     cases e : intsD l with
     | none => rw [e] at h; cases h
     | some m => rw [e] at h; cases h; rw [intsD_some e]; rfl
   | _ => cases h
noncomputable def dRow : D -> Option (List D)
 | .list l => some l
 | .tuple l => some l
 | _ => none
noncomputable def gSS (g : DS -> Option D) : DS -> Option (List D) := fun δ => (g δ).bind fun d => (dRow d).bind fun l => (intsD l).bind fun ns => if ns.length < 64 then some ((ss ns).map .int) else none
theorem HDs.toInts {K : PySem.W.Frag} {H : Hp} : ∀ {ns : List Int} {xs : List V}, HDs K H xs (ns.map PyData.int) -> xs = ns.map V.int
 | [], _, h => by cases h; rfl
 | n :: ns, _, h => by
   rw [List.map_cons] at h
   cases h with
   | cons a t => cases a; rw [HDs.toInts t]; rfl
set_option tactic.hygienic true in
theorem pd_sortSet {X : Cx} {O : List Nat} {e : Expr} {ge : DS -> Option D} {p1 p2 q1 q2 : Pos} (h1 : X.mg "sorted" = none) (h2 : X.mg "set" = none) (he : PE X e (tSh X.K O ge)) (hc : X.calm = true := by rfl) (g1 : Gl X "sorted" := by rfl) (g2 : Gl X "set" := by rfl)
  (s1 : starEach [Expr.Call (.Name "set" p2) [e] [] q2] X.env = (false, eval (Expr.Call (.Name "set" p2) [e] [] q2) X.env) :: starEach [] X.env := by rfl) (s2 : starEach [e] X.env = (false, eval e X.env) :: starEach [] X.env := by rfl)
  (b1 : (backTo q1 (starEach [] X.env)).any (·.1) = false := by rfl) (b2 : (backTo q2 (starEach [] X.env)).any (·.1) = false := by rfl) :
  PE X (.Call (.Name "sorted" p1) [.Call (.Name "set" p2) [e] [] q2] [] q1) (tN X.K O (gSS ge)) :=
 (pe_callB (call_sortSet hc) g1 h1 bt_sorted (pa_cons (pe_callTy (call_setR hc) g2 h2 bt_set (pa_cons he pa_nil s2) (by decide) (by decide) s2 b2) pa_nil s1) (by decide) (by decide) s1 b1).mono fun σ H Q hh => hh.e fun U A0 δ ds R ed q => by
  obtain ⟨d, e1, ed⟩ := bind1 ed
  obtain ⟨l, e2, ed⟩ := bind1 ed
  obtain ⟨ns, e3, ed⟩ := bind1 ed
  split at ed
  ·rename_i h64
   cases ed
   refine ⟨U, A0, δ, d, R, e1, fun v H1 s1 hv => ?_⟩
   have row : ∃ p, v = .ref p /\ (SqL X.K H1 p (ns.map V.int) \/ SqT X.K H1 p (ns.map V.int)) := by
    unfold dRow at e2
    split at e2
    ·cases e2
     obtain ⟨p, xs, rfl, r1, r2⟩ := hv.list
     rw [intsD_some e3] at r2
     rw [<- r2.toInts]
     exact ⟨p, rfl, .inl r1.sq⟩
    ·cases e2
     obtain ⟨p, xs, rfl, r1, r2⟩ := hv.tuple
     rw [intsD_some e3] at r2
     rw [<- r2.toInts]
     exact ⟨p, rfl, .inr r1⟩
    ·cases e2
   obtain ⟨p, rfl, hrow⟩ := row
   refine ⟨p, ns, rfl, hrow, by unfold scanBound; lia, fun l1 ms hl1 hm hle => ?_⟩
   refine ⟨l1, ms, rfl, upd_same, by lia, fun l2 out hl2 hr hm2 => ?_⟩
   have eo : out = ss ns := (ss_eq hr fun z => by rw [hm2, hm]).symm
   subst eo
   refine q l2 _ _ (s1.trans ((same_new hl1 _).trans (same_new hl2 _))) (s1.free ((same_new hl1 _).free hl2)) upd_same (HDs.ints _)
  ·cases ed
end L2
namespace L2
open PySem PySem.Spec PyProof.Rows
section
variable {prog : Program} {w : World} {A : Around} {R : Result -> Shared -> Prop} {s : Shared}
theorem compLoop_own {elt target iter : Expr} {ifs : List Expr} {scope : Scope} {pos : Pos} {it acc : Value} {env : Env} (I : Nat -> Shared -> Prop)
  (turn : ∀ n s, I n s -> wpAny (model prog w) A (pyNext it) (fun r s₁ => match r with
   | none => R (.ok .next) s₁
   | some v => wpAny (model prog w) A (letOwnedTupleGo target it v) (fun _ s₂ => wpAny (model prog w) A (assign target env v) (fun _ s₃ =>
     wpAny (model prog w) A (forIn ifs true fun c r => if r = true then do let ok <- isTrue c env (eval c env); pure (ForInStep.yield ok) else pure (ForInStep.yield r)) (fun ok s₄ =>
      if ok = true then wpAny (model prog w) A (eval elt env) (fun x s₅ =>
       wpAny (model prog w) A (call (.builtin "list.append") [acc, x]) (fun _ s₆ => ∃ m, m < n /\ I m s₆) (notedBy (model prog w) A env fun e s' => R (.error e) s') s₅) (notedBy (model prog w) A env fun e s' => R (.error e) s') s₄
      else ∃ m, m < n /\ I m s₄) (notedBy (model prog w) A env fun e s' => R (.error e) s') s₃) (notedBy (model prog w) A env fun e s' => R (.error e) s') s₂) (notedBy (model prog w) A env fun e s' => R (.error e) s') s₁) (notedBy (model prog w) A env fun e s' => R (.error e) s') s)
  (n : Nat) (h : I n s) : codeAny (model prog w) A (.compLoop (.ListComp elt [⟨target, iter, ifs, 0⟩] scope pos) 0 it acc env) R s := by
 refine codeAny_loop rfl I (fun n s hI => ?_) n h
 show wpAny _ A ((compTurn (.ListComp elt [⟨target, iter, ifs, 0⟩] scope pos) 0 it acc env).onRaise (fun x => do noteFrame x env; theTreesLotGoes x)) _ _ s
 refine wpAny_noted ?_
 rw [compTurn_list]
 refine wpAny_bind (wpAny_standAt (wpAny_bind (wpAny_mono (turn n s hI) (fun r s₁ h₁ => ?_) fun _ _ z => z)))
 cases r with
 | none => exact wpAny_pure h₁
 | some v =>
   refine wpAny_bind (wpAny_mono h₁ (fun _ s₂ h₂ => wpAny_bind (wpAny_mono h₂ (fun _ s₃ h₃ => wpAny_bind (wpAny_mono h₃ (fun ok s₄ h₄ => ?_) fun _ _ z => z)) fun _ _ z => z)) fun _ _ z => z)
   cases ok with
   | false => exact wpAny_pure ⟨rfl, h₄⟩
   | true => exact wpAny_bind (wpAny_bind (wpAny_mono h₄ (fun x s₅ h₅ => wpAny_bind (wpAny_mono h₅ (fun _ s₆ h₆ => wpAny_pure (wpAny_pure ⟨rfl, h₆⟩)) fun _ _ z => z)) fun _ _ z => z))
end
noncomputable def PF (X : Cx) (ifs : List Expr) (t : TT) : Prop :=
 ∀ (pins : List (Addr × Obj)) (s : Shared) (σ : St) (H : Hp) (Q : Bool -> Hp -> Prop), Inv X pins σ H s -> t σ H Q ->
   wpAny (model X.prog X.w) X.A (forIn ifs true fun c r => if r = true then do let ok <- isTrue c X.env (eval c X.env); pure (ForInStep.yield ok) else pure (ForInStep.yield r)) (TP X pins σ Q) X.xe s
noncomputable def tYes : TT := fun _ H Q => Q true H
theorem pf_nil {X : Cx} : PF X [] tYes := fun _ _ _ H _ I q => wpAny_pure ⟨H, I, q⟩
theorem pf_one {X : Cx} {c : Expr} {t : TT} (h : PT X c t) : PF X [c] t := fun pins s σ H Q I q => wpAny_tests_one (h pins s σ H Q I q)
section
variable {X : Cx}
structure CompScL (X : Cx) (scope : Scope) (xs : List Str) (ix : List Nat) (N' : List Str) : Prop where
 kind : scope.kind = .function
 nocell : ∀ y ∈ scope.names, y.2 ≠ .cell
 names : ∀ y ∈ scope.names, y.2 = .local -> scope.names.lookup y.1 = some .local
 free : ∀ y ∈ scope.names, y.2 = .free -> X.env.kindOf y.1 = some .cell \/ X.env.kindOf y.1 = some .free
 only : ∀ n, (X.env.scope.kind = .function) -> ((relabel scope X.env).names.lookup n = some .cell \/ (relabel scope X.env).names.lookup n = some .free) -> (n, NameKind.free) ∈ scope.names
 nm : N' = xs ++ ix.map fun j => X.N.getD j ""
 ixs : ∀ j ∈ ix, j < X.N.length /\ (X.N.getD j "", NameKind.free) ∈ scope.names /\ ((relabel scope X.env).names.lookup (X.N.getD j "") = some .cell \/ (relabel scope X.env).names.lookup (X.N.getD j "") = some .free)
section
variable {scope : Scope} {xs : List Str} {ix : List Nat} {N' : List Str} {cl : List (Str × Addr)} {C : Addr} {s2 s3 : Shared} {H2 : Hp} {fp : List Addr} {pins : List (Addr × Obj)} {σ : St}
theorem comp_okL (S : CompScL X scope xs ix N') (I : Inv X pins σ H2 s2) (hC : s2.heap.objs.size <= C) (h1 : ∀ n c, cl.lookup n = some c -> X.env.cells.lookup n = some c) (h2 : ∀ n, (n, NameKind.free) ∈ scope.names -> ∃ c, cl.lookup n = some c)
  (hf : ∀ b ∈ fp, FpOk X pins H2 b) (hfl : ∀ b ∈ fp, b < s2.heap.objs.size) : (compCx X scope N' cl C s2 H2 fp pins).Ok where
 mod := I.ok.mod
 kind := by show (relabel scope X.env).kind = _; exact S.kind
 glob := I.ok.glob
 blt := I.ok.blt
 above := hC
 inj := fun a b c e1 e2 => I.ok.inj a b c (h1 _ _ e1) (h1 _ _ e2)
 has := fun a h => h2 a (S.only a I.ok.kind h)
 cab := fun a c h => by cases h
 hd := I.ok.hd
 frames := I.ok.frames
 stk := .inl rfl
 exf := fun b hb => ⟨Nat.ne_of_lt (Nat.lt_of_lt_of_le (hfl b hb) hC), fun a c e => (hf b hb).2.2.2.2.1 a c (h1 _ _ e)⟩
 bs := I.bs
 bsz := Nat.le_trans I.ok.bsz I.sz
 noex := fun b o e hb => by
  rcases (hf b hb).2.2.2.1 with z | z
  ·exact I.ok.noex b o e z
  ·have := (I.ok.bs b o e).1
   exact absurd (Nat.lt_of_lt_of_le (Heap.lt_size this) z) (Nat.lt_irrefl _)
 exfs := fun b hb z => by
  rcases List.mem_cons.mp (I.stkSub b z) with e | e
  ·exact (hf b hb).2.1 e
  ·exact (hf b hb).2.2.1 e
 funs := I.stack
 frf := I.stkFree
theorem comp_invL (S : CompScL X scope xs ix N') (I : Inv X pins σ H2 s2) (hC : s2.heap.objs.size <= C) (h1 : ∀ n c, cl.lookup n = some c -> X.env.cells.lookup n = some c) (h2 : ∀ n, (n, NameKind.free) ∈ scope.names -> ∃ c, cl.lookup n = some c)
  (hf : ∀ b ∈ fp, FpOk X pins H2 b) (hfl : ∀ b ∈ fp, b < s2.heap.objs.size) (hs3 : s3.os = s2.os) (hg : s3.gens = s2.gens) (k : ∀ b o, s2.heap.get? b = some o -> s3.heap.get? b = some o) {m : Str -> Option Value} (hn : s3.heap.Ns C m) :
  Inv (compCx X scope N' cl C s2 H2 fp pins) [] (List.replicate xs.length none ++ capt ix σ) H2 s3 where
 ok := comp_okL S I hC h1 h2 hf hfl
 os := hs3
 bare := by rw [hg]; exact I.bare
 base := ⟨fun b o e _ _ _ => k b o e, fun b o e _ _ _ => ⟨o.slots, k b o e⟩, fun b o e n _ => n, fun b o e _ => ⟨o, k b o e⟩, fun _ _ e => e, fun _ _ _ e => e, fun b ps e => ⟨#[], by rw [Array.append_empty]; exact e⟩⟩
 loc := by
  refine ⟨m, hn, fun i y v e1 e2 e3 => ?_⟩
  by_cases hi : i < xs.length
  ·rw [List.getElem?_append_left (by simpa using hi), List.getElem?_replicate, if_pos hi] at e2
   cases e2
  ·have e2' : (capt ix σ)[i - xs.length]? = some (some v) := by rw [List.getElem?_append_right (by simp; lia)] at e2; simpa using e2
   obtain ⟨j, ej, es⟩ := capt_get e2'
   have e1' : N'[i]? = some y := e1
   rw [S.nm, List.getElem?_append_right (by lia), List.getElem?_map, ej] at e1'
   have ey : X.N.getD j "" = y := Option.some.inj e1'
   obtain ⟨hj, hfr, hk⟩ := S.ixs j (List.mem_of_getElem? ej)
   obtain ⟨m0, hn0, hl0⟩ := I.loc
   have eN : X.N[j]? = some y := by rw [<- ey, List.getD_eq_getElem?_getD, List.getElem?_eq_getElem hj]; rfl
   have kd := S.free _ hfr rfl
   have hv : Vis X.env.scope y := by
    rw [<- ey]
    rcases kd with z | z
    ·exact .inr (.inl z)
    ·exact .inr (.inr z)
   obtain ⟨u, r, l⟩ := hl0 j y v eN es hv
   refine ⟨u, r, .inr ?_⟩
   rcases l with ⟨q, _⟩ | ⟨_, c, ec, z⟩
   ·have kd' : X.env.kindOf y = some .cell \/ X.env.kindOf y = some .free := by rw [<- ey]; exact kd
    rcases kd' with w | w <;> rw [q] at w <;> cases w
   ·obtain ⟨c', e'⟩ := h2 _ hfr
    rw [ey] at e'
    have := h1 _ _ e'
    rw [ec] at this; cases this
    obtain ⟨o, ho, hd⟩ := z
    exact ⟨by rw [<- ey]; exact hk, c, e', o, k c o ho, hd⟩
 cell := fun a c e => by
  obtain ⟨v, o, ho, hd⟩ := I.cell a c (h1 _ _ e)
  exact ⟨v, o, k c o ho, hd⟩
 free := I.hok.fresh hC
 freeC := fun a c e => I.freeC a c (h1 _ _ e)
 pin := fun p hp => by
  have hp' : p ∈ X.pn ++ pins := by
   rcases List.mem_append.mp hp with z | z
   ·exact z
   ·simp at z
  obtain ⟨e, n, ne, nf, d⟩ := I.pin p hp'
  refine ⟨k _ _ e, n, Nat.ne_of_lt (Nat.lt_of_lt_of_le (Heap.lt_size e) hC), fun z => ?_, d⟩
  rcases List.mem_cons.mp (I.stkSub _ z) with q | q
  ·exact ne q
  ·exact nf q
 hok := I.hok.kept k
 len := by
  show (List.replicate xs.length none ++ capt ix σ).length = N'.length
  rw [S.nm]
  unfold capt
  simp
end
noncomputable def cBlockL (J : It) (k : Nat) (ix : List Nat) (g : TG) (tc : TT) (te : TE) (σ : St) (H : Hp) (Q : VK) : Prop := ∃ W : Nat -> Nat -> List V -> St -> Hp -> Prop, (∃ m, W 0 m [] (List.replicate k none ++ capt ix σ) H) /\ ∀ i m ys τ H, W i m ys τ H -> ys.length <= sizeLine /\
 ((J.stop i H /\ ∀ p, H p = none -> Q (.ref p) (upd H p (.lst ys))) \/ (J.go i H /\ ys.length < sizeLine /\ ∀ v H', J.yld i H v H' -> g v τ H' fun τ2 H2 => tc τ2 H2 fun b H3 =>
   if b = true then te τ2 H3 fun y H4 => ∃ m', m' < m /\ W (i + 1) m' (ys ++ [y]) τ2 H4 else ∃ m', m' < m /\ W (i + 1) m' ys τ2 H3))
noncomputable def tCompL (wi : TI) (k : Nat) (ix : List Nat) (g : TG) (tc : TT) (te : TE) : TE := fun σ H Q => wi σ H fun J H1 => cBlockL J k ix g tc te σ H1 Q
section
variable {scope : Scope} {xs : List Str} {ix : List Nat} {N' : List Str} {elt iter tg : Expr} {ifs : List Expr} {pos : Pos} {wi : TI} {te : TE} {tc : TT} {g : TG}
structure CIn (X' : Cx) (D : Addr) (fp : List Addr) (tn : Nat -> Heap -> Prop) (W : Nat -> Nat -> List V -> St -> Hp -> Prop) (n : Nat) (s' : Shared) (i : Nat) (ys : List V) (its : List Value) (k : Nat) (σ' : St) (H' : Hp) : Prop where
 I : Inv X' [(D, lob its k)] σ' H' s'
 st : tn i s'.heap
 fr : ∀ b ∈ fp, H' b = none
 w : W i n ys σ' H'
 rv : Vals ys its
noncomputable def CInv (X' : Cx) (D : Addr) (fp : List Addr) (tn : Nat -> Heap -> Prop) (W : Nat -> Nat -> List V -> St -> Hp -> Prop) (n : Nat) (s' : Shared) : Prop := ∃ i ys its k σ' H', CIn X' D fp tn W n s' i ys its k σ' H'
theorem CInv_e {X' : Cx} {D : Addr} {fp : List Addr} {tn : Nat -> Heap -> Prop} {W : Nat -> Nat -> List V -> St -> Hp -> Prop} {n : Nat} {s' : Shared} {P : Prop} (h : CInv X' D fp tn W n s') (k : ∀ i ys its k σ' H', CIn X' D fp tn W n s' i ys its k σ' H' -> P) : P := by
 obtain ⟨_, _, _, _, _, _, t⟩ := h
 exact k _ _ _ _ _ _ t
theorem PIE_e {gd : Cx -> Prop} {X : Cx} {pins : List (Addr × Obj)} {σ : St} {tg : Expr} {R : It -> Hp -> Prop} {itv : Value} {s2 : Shared} {P : Value -> Prop} (h : PIEG gd X pins σ tg R itv s2) (k : ∀ it fp tn J H', Inv X pins σ H' s2 -> TurnG gd X.prog X.w X.K tg J fp it tn -> tn 0 s2.heap -> (∀ b ∈ fp, FpOk X pins H' b) -> R J H' -> P (.ref it)) : P itv := by
 obtain ⟨it, fp, tn, J, H', rfl, a, b, c, d, e⟩ := h
 exact k it fp tn J H' a b c d e
theorem comp_runL (S : CompScL X scope xs ix N') {gd : Cx -> Prop} (hc : ∀ cl C s2 H2 fp pins, gd (compCx X scope N' cl C s2 H2 fp pins)) (hg : ∀ cl C s2 H2 fp pins, PG (compCx X scope N' cl C s2 H2 fp pins) tg g) (hf : ∀ cl C s2 H2 fp pins, PF (compCx X scope N' cl C s2 H2 fp pins) ifs tc) (helt : ∀ cl C s2 H2 fp pins, PE (compCx X scope N' cl C s2 H2 fp pins) elt te)
  {pins : List (Addr × Obj)} {σ : St} {s2 : Shared} {Q : VK} {itv : Value} (h : PIEG gd X pins σ tg (fun J H1 => cBlockL J xs.length ix g tc te σ H1 Q) itv s2) {cl : List (Str × Addr)} (h1 : ∀ n c, cl.lookup n = some c -> X.env.cells.lookup n = some c) (h2 : ∀ n, (n, NameKind.free) ∈ scope.names -> ∃ c, cl.lookup n = some c)
  {use : Option (Value -> Sem Unit)} {QQ : Value -> Shared -> Prop}
  (fin : ∀ (D C : Addr) (H' : Hp) (s1 : Shared) (m : Str -> Option Value), s1.heap.Ns C m -> H' C = none -> X.s₀.heap.objs.size <= C -> C ≠ X.env.locals -> (∀ a c, X.env.cells.lookup a = some c -> c ≠ C) -> (∀ p ∈ X.pn ++ pins, p.1 ≠ C) -> (∀ h', Heap.SameBut C s1.heap h' -> Inv X pins σ H' { s1 with heap := h' }) -> Q (.ref D) H' ->
   compPost (model X.prog X.w) X.A X.xe use QQ (.ref D) C (.ok .next) s1) :
  wpAny (model X.prog X.w) X.A (newList []) (fun acc s₃ => wpAny (model X.prog X.w) X.A (newFunctionEnv scope X.env.globals cl [] X.env.qual none .none (some X.env)) (fun cenv s₄ =>
   codeAny (model X.prog X.w) X.A (.compStart (.ListComp elt [⟨tg, iter, ifs, 0⟩] scope pos) 0 itv acc { cenv with scope := relabel scope X.env }) (compPost (model X.prog X.w) X.A X.xe use QQ acc cenv.locals) s₄) X.xe s₃) X.xe s2 := by
 refine PIE_e (P := fun itv => wpAny (model X.prog X.w) X.A (newList []) (fun acc s₃ => wpAny (model X.prog X.w) X.A (newFunctionEnv scope X.env.globals cl [] X.env.qual none .none (some X.env)) (fun cenv s₄ =>
   codeAny (model X.prog X.w) X.A (.compStart (.ListComp elt [⟨tg, iter, ifs, 0⟩] scope pos) 0 itv acc { cenv with scope := relabel scope X.env }) (compPost (model X.prog X.w) X.A X.xe use QQ acc cenv.locals) s₄) X.xe s₃) X.xe s2) h fun it fp tn J H1 I2 T st2 f2 hR => ?_
 clear h
 obtain ⟨W, ⟨m0, w0⟩, turn⟩ := hR
 have hfl : ∀ b ∈ fp, b < s2.heap.objs.size := fun b hb => by
  obtain ⟨o, e, _⟩ := T.obj _ _ st2 b hb
  exact Heap.lt_size e
 refine wpAny_newObj_type (wpAny_newFunctionEnv S.nocell (by intro y hy; simp at hy) (fun h₁ hns₁ hsb₁ => ?_) S.kind)
 dsimp only at hns₁ hsb₁ ⊢
 generalize hH2 : s2.heap.push { cls := .type "list", dict := none, data := .seq ([] : List Value).toArray } = P2 at hns₁ hsb₁ ⊢
 have hC : P2.objs.size = s2.heap.objs.size + 1 := by rw [<- hH2, Heap.size_push]
 have hDC : s2.heap.objs.size ≠ P2.objs.size := by rw [hC]; exact Nat.ne_of_lt (Nat.lt_succ_self _)
 have hCle : s2.heap.objs.size <= P2.objs.size := by rw [hC]; exact Nat.le_succ _
 have below : ∀ b, b < s2.heap.objs.size -> b ≠ P2.objs.size := fun b hb => by rw [hC]; exact Nat.ne_of_lt (Nat.lt_succ_of_lt hb)
 have old : ∀ b o, s2.heap.get? b = some o -> h₁.get? b = some o := fun b o e => hsb₁.extBut b o (below b (Heap.lt_size e)) (Heap.get?_push_of_some _ (hH2 ▸ Heap.get?_push_of_some _ e))
 have hacc : h₁.get? s2.heap.objs.size = some (lob [] 0) := hsb₁.extBut _ _ hDC (Heap.get?_push_of_some _ (hH2 ▸ Heap.get?_push_size _ rfl))
 generalize P2.objs.size = C at *
 generalize hDD : s2.heap.objs.size = D at *
 have neP : ∀ p ∈ X.pn ++ pins, p.1 ≠ D /\ p.1 ≠ C := fun p hp => by
  have := Heap.lt_size (I2.pin p hp).1
  rw [hDD] at this
  exact ⟨Nat.ne_of_lt this, Nat.ne_of_lt (Nat.lt_of_lt_of_le this hCle)⟩
 have DnF : D ∉ fp := fun hb => Nat.lt_irrefl _ (hfl D hb)
 have CnF : C ∉ fp := fun hb => absurd (Nat.lt_of_lt_of_le (hfl C hb) hCle) (Nat.lt_irrefl _)
 have cellD : ∀ a c, X.env.cells.lookup a = some c -> c ≠ D /\ c ≠ C := fun a c e => by
  obtain ⟨v, q⟩ := I2.cell a c e
  have := q.lt
  rw [hDD] at this
  exact ⟨Nat.ne_of_lt this, Nat.ne_of_lt (Nat.lt_of_lt_of_le this hCle)⟩
 have locD : X.env.locals < D := by have := I2.lt; rw [hDD] at this; exact this
 have s0D : X.s₀.heap.objs.size <= D := by rw [<- hDD]; exact I2.sz
 have I3 := comp_invL (s3 := { s2 with heap := h₁, toks := s2.toks + ([] : List (Str × Value)).length }) S I2 (by rw [hDD]; exact hCle) h1 h2 f2 (by rw [hDD]; exact hfl) rfl rfl old hns₁
 have stat : ∀ {H' : Hp} {pp : List (Addr × Obj)}, (∀ p ∈ pp, p.1 ∉ fp) -> (∀ b ∈ fp, H' b = none) -> ∀ b ∈ fp, FpOk (compCx X scope N' cl C s2 H1 fp pins) pp H' b := fun {H' pp} hpp hn b hb => by
  obtain ⟨f0, f1, f3, f4, f5, f6⟩ := f2 b hb
  refine ⟨hn b hb, fun z => CnF (by rw [<- show b = C from z]; exact hb), fun z => ?_, .inl hb, fun a c e => f5 a c (h1 _ _ e), fun p hp => ?_⟩
  ·rcases List.mem_cons.mp (I2.stkSub b z) with q | q
   ·exact f1 q
   ·exact f3 q
  ·rcases List.mem_append.mp hp with q | q
   ·exact f6 p q
   ·intro z; exact hpp p q (by rw [z]; exact hb)
 have DnS : ∀ b, D <= b -> b ∉ frs X.stack := fun b hb z => by
  rcases List.mem_cons.mp (I2.stkSub b z) with q | q
  ·rw [q] at hb; exact absurd (Nat.lt_of_lt_of_le locD hb) (Nat.lt_irrefl _)
  ·exact I2.nofs (by rw [hDD]; exact hb) q
 have loop : ∀ s₃ : Shared, s₃ = { s2 with heap := h₁, toks := s2.toks + ([] : List (Str × Value)).length } ->
   codeAny (model X.prog X.w) X.A (.compLoop (.ListComp elt [⟨tg, iter, ifs, 0⟩] scope pos) 0 (.ref it) (.ref D) (compEnvC scope cl C X.env)) (compPost (model X.prog X.w) X.A X.xe use QQ (.ref D) C) s₃ := by
  rintro s₃ rfl
  refine compLoop_own (CInv (compCx X scope N' cl C s2 H1 fp pins) D fp tn W) ?_ m0
   ⟨0, [], [], 0, _, H1, ?_, T.keep _ _ _ st2 (fun b hb o e => old b o e), fun b hb => (f2 b hb).1, w0, .nil⟩
  ·refine fun n s' z => CInv_e z fun i ys its k σ' H' t => ?_
   have I := t.I
   have st := t.st
   have fr := t.fr
   have rv := t.rv
   obtain ⟨hz, w⟩ := turn i n ys σ' H' t.w
   have pD := I.pin (D, lob its k) (List.mem_append_right _ List.mem_cons_self)
   have hpp : ∀ p ∈ [(D, lob its k)], p.1 ∉ fp := fun p hp => by
    have e : p = (D, lob its k) := by simpa using hp
    rw [e]; exact DnF
   rcases w with ⟨stop, q⟩ | ⟨go, hz', step⟩
   ·refine wpAny_mono (T.done (compCx X scope N' cl C s2 H1 fp pins) rfl rfl rfl (hc _ _ _ _ _ _) i _ s' _ H' (fun _ _ => False) I (stat hpp fr) st stop) (fun r s1 hr => ?_) fun _ _ z => z.elim
    obtain ⟨rfl, I1⟩ := hr
    obtain ⟨m, hn, _⟩ := I1.loc
    have p1 := I1.pin (D, lob its k) (List.mem_append_right _ List.mem_cons_self)
    have fC : H' C = none := I1.free
    refine fin D C (upd H' D (.lst ys)) s1 m hn (by rw [upd_ne (Ne.symm hDC)]; exact fC) (Nat.le_trans s0D hCle) (Nat.ne_of_gt (Nat.lt_of_lt_of_le locD hCle)) (fun a c e => (cellD a c e).2) (fun p hp => (neP p hp).2) (fun h' hs => ?_) (q D p1.2.1)
    exact comp_exit (N' := N') I2 (by rw [hDD]; exact hCle) (by rw [hDD]; exact Nat.le_refl _) f2 I1 rv hz hs hDC
   ·refine wpAny_mono (T.item (compCx X scope N' cl C s2 H1 fp pins) rfl rfl rfl (hc _ _ _ _ _ _) i _ s' _ H' (fun _ _ => False) I (stat hpp fr) st go) (fun r s4 hr => ?_) fun _ _ z => z.elim
    obtain ⟨u, rfl, h4⟩ := hr
    refine wpAny_mono h4 (fun _ s5 h5 => ?_) fun _ _ z => z.elim
    obtain ⟨v, H5, I5, r5, y5, st5, fr5⟩ := h5
    have I5' := I5.pinned (stat hpp fr5) (T.obj _ _ st5)
    refine wpAny_mono (hg cl C s2 H1 fp pins _ s5 σ' H5 v u _ I5' r5 (step v H5 y5)) (fun _ s6 h6 => ?_) fun _ _ z => z.elim
    obtain ⟨τ2, H6, I6, q6⟩ := h6
    have gone : ∀ {τ : St} {H9 : Hp} {s9 : Shared}, Inv (compCx X scope N' cl C s2 H1 fp pins) ([(D, lob its k)] ++ pinsAt fp s5.heap) τ H9 s9 -> tn (i + 1) s9.heap /\ ∀ b ∈ fp, H9 b = none := fun {τ H9 s9} I9 =>
     ⟨T.keep _ _ _ st5 fun b hb o e => (I9.pin (b, o) (List.mem_append_right _ (List.mem_append_right _ (mem_pinsAt hb e)))).1, fun b hb => by
      obtain ⟨o, e, d⟩ := T.obj _ _ st5 b hb
      exact (I9.pin (b, o) (List.mem_append_right _ (List.mem_append_right _ (mem_pinsAt hb e)))).2.1⟩
    refine wpAny_mono (hf cl C s2 H1 fp pins _ s6 τ2 H6 _ I6 q6) (fun ok s6' h6' => ?_) fun _ _ z => z.elim
    obtain ⟨H6', I6', q6'⟩ := h6'
    cases ok with
    | false =>
      rw [if_neg Bool.false_ne_true] at q6' ⊢
      obtain ⟨m', hm', w7⟩ := q6'
      obtain ⟨g1, g2⟩ := gone I6'
      exact ⟨m', hm', i + 1, ys, its, k, τ2, H6', I6'.pins_of fun p hp => I6'.pin p (List.mem_append_right _ (List.mem_append_left _ hp)), g1, g2, w7, rv⟩
    | true =>
    rw [if_pos rfl] at q6' ⊢
    refine wpAny_mono (helt cl C s2 H1 fp pins _ s6' τ2 H6' _ I6' q6') (fun y s7 h7 => ?_) fun _ _ z => z.elim
    obtain ⟨yv, H7, I7, r7, m', hm', w7⟩ := h7
    have p7 := I7.pin (D, lob its k) (List.mem_append_right _ (List.mem_append_left _ List.mem_cons_self))
    have hl := rv.length
    refine call_meets F.slot_list_append ⟨_, p7.1, rfl⟩ F.entry_list_append (F.args_list_append_2 _ _) (PySem.list_append D its.toArray k y (by rw [List.size_toArray]; lia)) ⟨p7.1, ?_⟩
    have q := PySem.IsL.update p7.1 (·.push y)
    have keepB : ∀ b o, b ≠ D -> s7.heap.get? b = some o -> (s7.heap.update D (Obj.mapSeq (·.push y))).get? b = some o := fun b o hb e => (Heap.get?_update_other s7.heap _ (Ne.symm hb)).trans e
    have I8 : Inv (compCx X scope N' cl C s2 H1 fp pins) (pinsAt fp s5.heap) τ2 H7 s7 := I7.pins_of fun p hp => I7.pin p (List.mem_append_right _ (List.mem_append_right _ hp))
    have I9 : Inv (compCx X scope N' cl C s2 H1 fp pins) (pinsAt fp s5.heap) τ2 H7 { s7 with heap := s7.heap.update D (Obj.mapSeq (·.push y)) } := I8.turned (t' := s7.toks) (it := D) keepB p7.2.1 hDC (.inr (by show s2.heap.objs.size <= D; rw [hDD]; exact Nat.le_refl _)) (fun a c e => (cellD a c (h1 _ _ e)).1) fun p hp z => by
     rcases List.mem_append.mp hp with z' | z'
     ·exact (neP p z').1 z
     ·exact DnF (by rw [<- z]; exact (of_pinsAt z').1)
    refine ⟨m', hm', i + 1, ys ++ [yv], its ++ [y], (if (its.toArray.push y).size == its.toArray.size then k else k + 1), τ2, H7, I9.pins_of (pins' := [(D, lob (its ++ [y]) ((if (its.toArray.push y).size == its.toArray.size then k else k + 1)))]) fun p hp => ?_, T.keep _ _ _ st5 fun b hb o e => ?_, fun b hb => ?_, w7, rv.append (.cons r7 .nil)⟩
    ·have e : p = (D, lob (its ++ [y]) ((if (its.toArray.push y).size == its.toArray.size then k else k + 1))) := by simpa using hp
     subst e
     refine ⟨by rw [q, List.push_toArray], p7.2.1, hDC, DnS D (Nat.le_refl _), fun v z => by cases z⟩
    ·have pb := I7.pin (b, o) (List.mem_append_right _ (List.mem_append_right _ (mem_pinsAt hb e)))
     exact keepB b o (fun z => DnF (by rw [<- z]; exact hb)) pb.1
    ·obtain ⟨o, e, d⟩ := T.obj _ _ st5 b hb
     exact (I7.pin (b, o) (List.mem_append_right _ (List.mem_append_right _ (mem_pinsAt hb e)))).2.1
  ·exact I3.pins_of fun p hp => by
    have e : p = (D, lob [] 0) := by simpa using hp
    subst e
    exact ⟨hacc, I2.hok.fresh (by rw [hDD]; exact Nat.le_refl _), hDC, DnS D (Nat.le_refl _), fun v z => by cases z⟩
 exact codeAny_compStart_list (loop _ rfl) (T.self _ 0 _ _ _ (T.keep _ _ _ st2 fun b hb o e => old b o e) (loop _ rfl))
theorem pe_compSL (S : CompScL X scope xs ix N') {gd : Cx -> Prop} (hc : ∀ cl C s2 H2 fp pins, gd (compCx X scope N' cl C s2 H2 fp pins)) (hi : PIG gd X tg iter wi) (hg : ∀ cl C s2 H2 fp pins, PG (compCx X scope N' cl C s2 H2 fp pins) tg g) (hf : ∀ cl C s2 H2 fp pins, PF (compCx X scope N' cl C s2 H2 fp pins) ifs tc) (helt : ∀ cl C s2 H2 fp pins, PE (compCx X scope N' cl C s2 H2 fp pins) elt te)
  (hs : ∀ x, foldedSetIterable iter X.env x = pure x) : PE X (.ListComp elt [⟨tg, iter, ifs, 0⟩] scope pos) (tCompL wi xs.length ix g tc te) := by
 intro pins s σ H Q I h
 obtain ⟨cl, hcl, h1, h2⟩ := closure_of (scope := scope) (env := X.env) (fun y hy hk => I.ok.has y.1 (S.free y hy hk))
 rw [eval_ListComp]
 refine wpAny_comprehension_free (use := none) rfl hs hcl S.kind S.names (wpAny_mono (hi pins s σ H _ I h) (fun xv s₁ h₁ => wpAny_mono h₁ (fun it s₂ h₂ => ?_) fun _ _ e => e) fun _ _ e => e)
 exact comp_runL S hc hg hf helt h₂ h1 h2 fun D C H' s1 m hn fC c1 c2 c3 c4 hI q => ⟨m, hn, fun h' hs' => ⟨.ref D, H', hI h' hs', rfl, q⟩⟩
theorem ps_setCSL {i : Nat} {y : Str} {py spos : Pos} (S : CompScL X scope xs ix N') {gd : Cx -> Prop} (hc : ∀ cl C s2 H2 fp pins, gd (compCx X scope N' cl C s2 H2 fp pins)) (hi : PIG gd X tg iter wi) (hg : ∀ cl C s2 H2 fp pins, PG (compCx X scope N' cl C s2 H2 fp pins) tg g) (hf : ∀ cl C s2 H2 fp pins, PF (compCx X scope N' cl C s2 H2 fp pins) ifs tc) (helt : ∀ cl C s2 H2 fp pins, PE (compCx X scope N' cl C s2 H2 fp pins) elt te)
  (hs : ∀ x, foldedSetIterable iter X.env x = pure x) (hN0 : X.N.Nodup) (hi0 : X.N[i]? = some y) (hy : X.env.scope.names.lookup y = some .local) (hsw : swapsWith (.ListComp elt [⟨tg, iter, ifs, 0⟩] scope pos) (some (.Name y py)) spos.line X.env = pure true) :
  PS X (.Assign [.Name y py] (.ListComp elt [⟨tg, iter, ifs, 0⟩] scope pos) spos) (tAsg (tCompL wi xs.length ix g tc te) (gName i)) := by
 intro pins s σ H D I h
 obtain ⟨cl, hcl, h1, h2⟩ := closure_of (scope := scope) (env := X.env) (fun y hy hk => I.ok.has y.1 (S.free y hy hk))
 rw [exec_Assign_Name_used _ _ _ _ hsw]
 refine wpAny_bind (wpAny_standAt (wpAny_bind ?_))
 show wpAny _ X.A (do let _ <- comprehension (.ListComp elt [⟨tg, iter, ifs, 0⟩] scope pos) scope X.env _ (newList []) false (eval iter X.env) (some (assign (.Name y py) X.env))) _ _ s
 refine wpAny_bind (wpAny_mono (wpAny_comprehension_free (use := some (assign (.Name y py) X.env)) (Q := fun _ s' => SP X pins D .next s') rfl hs hcl S.kind S.names
  (wpAny_mono (hi pins s σ H _ I h) (fun xv s₁ h₁ => wpAny_mono h₁ (fun it s₂ h₂ => ?_) fun _ _ e => e) fun _ _ e => e)) (fun _ s' hq => wpAny_pure (wpAny_pure hq)) fun _ _ e => e)
 refine comp_runL S hc hg hf helt h₂ h1 h2 fun A C H' s1 m hn fC c1 c2 c3 c4 hI q => ?_
 have I1 : Inv X pins σ H' s1 := hI s1.heap (.refl ..)
 refine wpAny_assign_Name (store_ok2 I1 hN0 hi0 (.inl hy) (show RelV (.ref A) (.ref A) from rfl) (fun s3 I3 ch => ?_) (.inr hy))
 obtain ⟨a, hs3, ha⟩ := ch
 have hCa : C ≠ a := by
  rcases ha with z | z
  ·rw [z]; exact c2
  ·intro e; exact c3 y a z e.symm
 refine ⟨m, hn.sameBut hs3 hCa, fun h' hs' => ?_⟩
 exact ⟨_, H', I3.turned (t' := s3.toks) (it := C) (fun b o hb e => (hs'.2 b hb).trans e) fC c2 (.inr c1) c3 c4, q⟩
end
noncomputable def compChkL (sc scope : Scope) (N : List Str) (xs : List Str) (ix : List Nat) (N' : List Str) : Bool :=
 (scope.kind == .function) && scope.names.all (fun y => !(y.2 == .cell)) && scope.names.all (fun y => !(y.2 == .local) || (scope.names.lookup y.1 == some .local))
 && scope.names.all (fun y => !(y.2 == .free) || (sc.names.lookup y.1 == some .cell || sc.names.lookup y.1 == some .free))
 && (relN sc scope).all (fun y => !(y.2 == .cell || y.2 == .free) || scope.names.any (fun z => z.1 == y.1 && z.2 == .free))
 && (N' == xs ++ ix.map fun j => N.getD j "") && ix.all (fun j => decide (j < N.length) && scope.names.any (fun z => z.1 == N.getD j "" && z.2 == .free) && ((relN sc scope).lookup (N.getD j "") == some .cell || (relN sc scope).lookup (N.getD j "") == some .free))
theorem compScL_of {sc scope : Scope} {N : List Str} {xs : List Str} {ix : List Nat} {N' : List Str} (h : compChkL sc scope N xs ix N' = true) (e1 : X.env.scope = sc) (e2 : X.N = N) : CompScL X scope xs ix N' := by
 subst e1 e2
 unfold compChkL at h
 simp only [Bool.and_eq_true, List.all_eq_true, Bool.or_eq_true, Bool.not_eq_true', List.any_eq_true, decide_eq_true_eq, beq_iff_eq, beq_eq_false_iff_ne] at h
 obtain ⟨⟨⟨⟨⟨⟨a1, a2⟩, a3⟩, a5⟩, a6⟩, a7⟩, a8⟩ := h
 refine ⟨a1, a2, fun y hy hk => (a3 y hy).elim (fun z => absurd hk z) id, fun y hy hk => (a5 y hy).elim (fun z => absurd hk z) id, fun n _ hn => ?_, a7, fun j hj => ?_⟩
 ·have : ∃ k, (n, k) ∈ relN X.env.scope scope /\ (k = NameKind.cell \/ k = NameKind.free) := by
   rcases hn with z | z
   ·exact ⟨_, lookup_mem z, .inl rfl⟩
   ·exact ⟨_, lookup_mem z, .inr rfl⟩
  obtain ⟨k, hk, hk2⟩ := this
  rcases a6 (n, k) hk with z | ⟨z, hz, e1, e2⟩
  ·exfalso
   simp at z
   rcases hk2 with q | q
   ·exact z.1 q
   ·exact z.2 q
  ·obtain ⟨z1, z2⟩ := z
   cases e1; cases e2; exact hz
 ·obtain ⟨⟨b1, ⟨z, hz, e1, e2⟩⟩, b3⟩ := a8 j hj
  refine ⟨b1, ?_, b3⟩
  obtain ⟨z1, z2⟩ := z
  cases e2
  have e1' : z1 = X.N.getD j "" := e1
  rw [<- e1']; exact hz
end
end L2
namespace L2
open PySem PySem.Spec PyProof.Rows LS
noncomputable def fltD (f : D -> Option (Option D)) : List D -> Option (List D)
 | [] => some []
 | d :: ds => (f d).bind fun o => (fltD f ds).bind fun xs => some (match o with | some x => x :: xs | none => xs)
noncomputable def gCompL (gi : DS -> Option (List D)) (k : Nat) (ix : List Nat) (gt : D -> DS -> Option DS) (gc : DS -> Option Bool) (ge : DS -> Option D) : DS -> Option (List D) := fun δ => (gi δ).bind fun ds => if ds.length <= 100000 then
 fltD (fun d => (gt d (List.replicate k none ++ captD ix δ)).bind fun δ1 => (gc δ1).bind fun b => if b = true then (ge δ1).map some else some none) ds else none
noncomputable def Own (k : Nat) (gt : D -> DS -> Option DS) : Prop := ∀ d c δ1, gt d (List.replicate k none ++ c) = some δ1 -> ∃ own : DS, own.length = k /\ δ1 = own ++ c
theorem own1 : Own 1 (gName' 0) := fun d c δ1 h => by cases h; exact ⟨[some d], rfl, rfl⟩
set_option tactic.hygienic true in
theorem own2 : Own 2 (gTupT 2 (gConsT (gName' 0) (gConsT (gName' 1) gNilT))) := fun d c δ1 h => by
 unfold gTupT at h
 split at h
 ·split at h
  ·rename_i ds hl
   match ds, hl with
   | [a, b], _ => cases h; exact ⟨[some a, some b], rfl, rfl⟩
  ·cases h
 ·cases h
section
variable {K : PySem.W.Frag} {O : List Nat} {U A0 : List Addr} {σ : St} {δ : DS} {H H1 : Hp}
theorem Rel.weak {own c : DS} (R : Rel K [] U A0 σ (own ++ c) H) : Rel K [] U A0 σ (List.replicate own.length none ++ c) H where
 len := by rw [R.len]; simp
 fz := fun i e hi q => by
  by_cases h : i < own.length
  ·rw [List.getElem?_append_left (by simpa using h), List.getElem?_replicate, if_pos h] at q
   cases q
  ·refine R.fz i e hi ?_
   rw [List.getElem?_append_right (by simpa using h)] at q
   rw [List.getElem?_append_right (by lia)]
   simpa using q
 ow := fun i e hi => by simp at hi
 inj := fun i j d e l hi => by simp at hi
 al := R.al
theorem Rel.captL (R : Rel K O U A0 σ δ H) {ix : List Nat} (k : Nat) (hix : ∀ j ∈ ix, j ∉ O) : Rel K [] U A0 (List.replicate k none ++ L2.capt ix σ) (List.replicate k none ++ captD ix δ) H where
 len := by simp [L2.capt, captD]
 fz := fun i e _ q => by
  by_cases h : i < k
  ·rw [List.getElem?_append_left (by simpa using h), List.getElem?_replicate, if_pos h] at q
   cases q
  ·rw [List.getElem?_append_right (by simpa using h)] at q ⊢
   simp only [List.length_replicate] at q ⊢
   unfold captD at q
   unfold L2.capt
   rw [List.getElem?_map] at q ⊢
   cases ei : ix[i - k]? with
   | none => rw [ei] at q; cases q
   | some j =>
     rw [ei] at q
     simp only [Option.map_some, Option.some.injEq] at q
     obtain ⟨u, hu, hd⟩ := R.fz j e (hix j (List.mem_of_getElem? ei)) (join_some q)
     exact ⟨u, by simp [hu], hd⟩
 ow := fun i e hi => by simp at hi
 inj := fun i j d e l hi => by simp at hi
 al := R.al
structure CB (K : PySem.W.Frag) (U A0 : List Addr) (H1 : Hp) (ds xs : List D) (F : D -> Option (Option D)) (base : DS) (i : Nat) (ys : List V) (τ : St) (H2 : Hp) (zs rest : List D) : Prop where
 le : i <= ds.length
 s : Same H1 H2
 R : Rel K [] U A0 τ base H2
 yl : ys.length <= i
 hz : HDs K (wo H2 (U ++ A0)) ys zs
 he : fltD F (ds.drop i) = some rest
 hx : zs ++ rest = xs
noncomputable def CBW (K : PySem.W.Frag) (U A0 : List Addr) (H1 : Hp) (ds xs : List D) (F : D -> Option (Option D)) (base : DS) (i m : Nat) (ys : List V) (τ : St) (H2 : Hp) : Prop := m = ds.length - i /\ ∃ zs rest, CB K U A0 H1 ds xs F base i ys τ H2 zs rest
theorem cBlockL_D {J : It} {ix : List Nat} {k : Nat} {gt : D -> DS -> Option DS} {gc : DS -> Option Bool} {ge : DS -> Option D} {ds xs : List D} {Q : VK} (own : Own k gt) (R : Rel K O U A0 σ δ H) (s : Same H H1) (hix : ∀ j ∈ ix, j ∉ O) (hw : WalksS K (U ++ A0) H1 J ds)
  (hl : ds.length <= 100000) (e : fltD (fun d => (gt d (List.replicate k none ++ captD ix δ)).bind fun δ1 => (gc δ1).bind fun b => if b = true then (ge δ1).map some else some none) ds = some xs)
  (q : ∀ r ys H', Same H H' -> H r = none -> H' r = some (.lst ys) -> HDs K (wo H' (r :: (U ++ A0))) ys xs -> Q (.ref r) H') : cBlockL J k ix (tG K [] gt) (tT K [] gc) (tE K [] ge) σ H1 Q := by
 have big : (100000 : Nat) < sizeLine := by decide
 obtain ⟨F, hF⟩ : ∃ F : D -> Option (Option D), F = fun d => (gt d (List.replicate k none ++ captD ix δ)).bind fun δ1 => (gc δ1).bind fun b => if b = true then (ge δ1).map some else some none := ⟨_, rfl⟩
 rw [<- hF] at e
 refine ⟨CBW K U A0 H1 ds xs F (List.replicate k none ++ captD ix δ), ⟨ds.length, rfl, [], xs, Nat.zero_le _, Same.refl _, (R.same s).captL k hix, Nat.le_refl _, .nil, e, rfl⟩, ?_⟩
 rintro i m ys τ H2 ⟨rfl, zs, rest, w⟩
 have hle := w.le
 have hyl := w.yl
 have he := w.he
 refine ⟨by lia, ?_⟩
 obtain ⟨hgo, hstop⟩ := hw i H2 w.s
 by_cases hlt : i < ds.length
 ·obtain ⟨go, hyd⟩ := hgo _ (List.getElem?_eq_getElem hlt)
  rw [List.drop_eq_getElem_cons hlt, fltD] at he
  generalize ds[i] = d at hyd he
  obtain ⟨o, e1, e2⟩ := bind1 he
  obtain ⟨rs, e3, e4⟩ := bind1 e2
  rw [hF] at e1
  obtain ⟨δ1, f1, f2⟩ := bind1 e1
  obtain ⟨b, f3, f4⟩ := bind1 f2
  obtain ⟨own1, ol, oe⟩ := own d _ δ1 f1
  refine .inr ⟨go, by lia, fun v H3 y => ?_⟩
  obtain ⟨s3, hv⟩ := hyd v H3 y
  refine ⟨U, A0, _, d, δ1, w.R.same s3, hv, f1, fun τ2 R3 => ⟨U, A0, δ1, b, R3, f3, fun H4 s4 => ?_⟩⟩
  have wk : ∀ {H' : Hp}, Same H3 H' -> Rel K [] U A0 τ2 (List.replicate k none ++ captD ix δ) H' := fun {H'} s' => by
   rw [<- ol]
   rw [oe] at R3
   exact (R3.same s').weak
  have lt : ds.length - (i + 1) < ds.length - i := Nat.sub_lt_sub_left hlt (Nat.lt_succ_self i)
  cases b with
  | true =>
    rw [if_pos rfl] at f4
    dsimp only
    rw [if_pos rfl]
    cases eg : ge δ1 with
    | none => rw [eg] at f4; cases f4
    | some x =>
      rw [eg] at f4; cases f4
      cases e4
      exact ⟨U, A0, δ1, x, R3.same s4, eg, fun u H5 s5 hu => ⟨_, lt, rfl, zs ++ [x], rs, hlt, ((w.s.trans s3).trans s4).trans s5, wk (s4.trans s5), by rw [List.length_append]; exact Nat.succ_le_succ hyl, (w.hz.same (wo_mono ((s3.trans s4).trans s5))).app (.cons hu .nil), e3, by rw [<- w.hx, List.append_assoc]; rfl⟩⟩
  | false =>
    rw [if_neg Bool.false_ne_true] at f4
    dsimp only
    rw [if_neg Bool.false_ne_true]
    cases f4
    cases e4
    exact ⟨_, lt, rfl, zs, rs, hlt, (w.s.trans s3).trans s4, wk s4, Nat.le_succ_of_le hyl, w.hz.same (wo_mono (s3.trans s4)), e3, w.hx⟩
 ·have hi : i = ds.length := Nat.le_antisymm hle (Nat.le_of_not_lt hlt)
  subst hi
  rw [List.drop_length, fltD] at he
  cases he
  have hx := w.hx
  rw [List.append_nil] at hx
  subst hx
  exact .inl ⟨hstop rfl, fun p hp => new_q (s.trans w.s) q p ys hp w.hz⟩
end
section
variable {X : Cx} {O : List Nat} {fr : Fr} {scope : Scope} {elt iter tg : Expr} {ifs : List Expr} {pos : Pos} {gi : DS -> Option (List D)} {ge : DS -> Option D} {gt : D -> DS -> Option DS} {gc : DS -> Option Bool} {k : Nat}
theorem PF.mono {t t' : TT} (h : PF X ifs t) (m : ∀ σ H Q, t' σ H Q -> t σ H Q) : PF X ifs t' := fun pins s σ H Q I q => h pins s σ H Q I (m σ H Q q)
theorem pd_fnil : PF X [] (tT X.K O fun _ => some true) := pf_nil.mono fun σ H Q hh => hh.e fun U A0 δ b R e q => by cases e; exact q H (Same.refl H)
set_option tactic.hygienic true in
theorem tCompL_N {K : PySem.W.Frag} {ix : List Nat} (own : Own k gt) (hix : ∀ j ∈ ix, j ∉ O) {σ : St} {H : Hp} {Q : VK} : tN K O (gCompL gi k ix gt gc ge) σ H Q -> tCompL (tIc K O gi) k ix (tG K [] gt) (tT K [] gc) (tE K [] ge) σ H Q := by
 rintro ⟨U, A0, δ, xs, R, ed, q⟩
 obtain ⟨ds, e1, e2⟩ := bind1 ed
 split at e2
 ·rename_i hl
  exact ⟨U, A0, δ, ds, R, e1, fun J H1 s hw => cBlockL_D own R s hix hw hl e2 q⟩
 ·cases e2
theorem pd_compL (sc : Scope) (N : List Str) (ix : List Nat) (N' xs : List Str) (own : Own k gt) (hi : PI X tg iter (tIc X.K O gi)) (hg : ∀ cl C s2 H2 fp pins, PG (compCx X scope N' cl C s2 H2 fp pins) tg (tG X.K [] gt)) (hf : ∀ cl C s2 H2 fp pins, PF (compCx X scope N' cl C s2 H2 fp pins) ifs (tT X.K [] gc))
  (helt : ∀ cl C s2 H2 fp pins, PE (compCx X scope N' cl C s2 H2 fp pins) elt (tE X.K [] ge)) (hix : ∀ j ∈ ix, j ∉ O := by decide) (hk : compChkL sc scope N xs ix N' = true := by decide +kernel) (hl : xs.length = k := by rfl)
  (e1 : X.env.scope = sc := by rfl) (e2 : X.N = N := by rfl) (hc : X.calm = true := by rfl) (hs : ∀ x, foldedSetIterable iter X.env x = pure x := by intro _; rfl) : PE X (.ListComp elt [⟨tg, iter, ifs, 0⟩] scope pos) (tN X.K O (gCompL gi k ix gt gc ge)) := by
 subst hl
 exact (pe_compSL (gd := calmG) (compScL_of hk e1 e2) (fun _ _ _ _ _ _ => hc) hi hg hf helt hs).mono fun _ _ _ => tCompL_N own hix
theorem pd_setCL {i : Nat} {y : Str} {py spos : Pos} (sc : Scope) (N : List Str) (ix : List Nat) (N' xs : List Str) (hN0 : X.N.Nodup) (hi0 : X.N[i]? = some y) (hy : X.env.scope.names.lookup y = some .local) (own : Own k gt) (hi : PI X tg iter (tIc X.K O gi))
  (hg : ∀ cl C s2 H2 fp pins, PG (compCx X scope N' cl C s2 H2 fp pins) tg (tG X.K [] gt)) (hf : ∀ cl C s2 H2 fp pins, PF (compCx X scope N' cl C s2 H2 fp pins) ifs (tT X.K [] gc)) (helt : ∀ cl C s2 H2 fp pins, PE (compCx X scope N' cl C s2 H2 fp pins) elt (tE X.K [] ge))
  (hix : ∀ j ∈ ix, j ∉ O := by decide) (hk : compChkL sc scope N xs ix N' = true := by decide +kernel) (hl : xs.length = k := by rfl)
  (e1 : X.env.scope = sc := by rfl) (e2 : X.N = N := by rfl) (hc : X.calm = true := by rfl) (hs : ∀ x, foldedSetIterable iter X.env x = pure x := by intro _; rfl) (hsw : swapsWith (.ListComp elt [⟨tg, iter, ifs, 0⟩] scope pos) (some (.Name y py)) spos.line X.env = pure true := by rfl) :
  PS X (.Assign [.Name y py] (.ListComp elt [⟨tg, iter, ifs, 0⟩] scope pos) spos) (tAsg (tN X.K O (gCompL gi k ix gt gc ge)) (gName i)) := by
 subst hl
 exact (ps_setCSL (gd := calmG) (compScL_of hk e1 e2) (fun _ _ _ _ _ _ => hc) hi hg hf helt hs hN0 hi0 hy hsw).mono fun _ _ _ h => tCompL_N own hix h
end
theorem vals_bools : ∀ {bs : List Bool} {its : List Value}, Vals (bs.map V.bl) its -> its = bs.map Value.bool := by
 intro bs
 induction bs with
 | nil => intro its h; cases h; rfl
 | cons b l ih =>
  intro its h
  cases h with
  | cons r t =>
   rw [List.map_cons, <- ih t]
   cases (show _ = Value.bool b from r)
   rfl
theorem all_range {bs : List Bool} : (List.range bs.length).all (fun i => bs.getD i true) = bs.all id := by
 rw [Bool.eq_iff_iff, List.all_eq_true, List.all_eq_true]
 constructor
 ·intro h b hb
  obtain ⟨i, hi, e⟩ := List.getElem_of_mem hb
  have := h i (List.mem_range.mpr hi)
  rw [List.getD_eq_getElem?_getD, List.getElem?_eq_getElem hi] at this
  rw [<- e]; exact this
 ·intro h i hi
  have hi := List.mem_range.mp hi
  rw [List.getD_eq_getElem?_getD, List.getElem?_eq_getElem hi]
  exact h _ (List.getElem_mem hi)
theorem call_allB {X : Cx} (hc : X.calm = true) : CallR X (.builtin "all") (fun xs H Q => ∃ (p : Addr) (bs : List Bool), xs = [.ref p] /\ SqL X.K H p (bs.map V.bl) /\ Q (.bl (bs.all id)) H) := by
 intro pins s σ H xs us Q I r h
 obtain ⟨p, bs, rfl, hq, q⟩ := h
 obtain ⟨u, rfl, rx⟩ := vals1 r
 cases rx
 obtain ⟨its, rv, pl, _⟩ := I.list hq
 have e := vals_bools rv
 subst e
 have hlt : p ≠ s.heap.objs.size := by
  obtain ⟨o, n, e1, _⟩ := pl
  exact Nat.ne_of_lt (Heap.lt_size e1)
 refine call_all_walk (wpAny_pyIter_list pl.isList ?_)
 refine ⟨s.heap.objs.size, [s.heap.objs.size, p], [s.heap.objs.size], _, _, _, fun i => bs.getD i true, rfl, Walks.list (A := X.A.in1) (I.ok.hd hc) _ p hlt (bs.map Value.bool).toArray, ⟨⟨_, Heap.get?_push_size _ rfl, rfl, rfl⟩, pl.isList.push _⟩, fun i v s' Q' E' hP hQ => ?_, fun h' tk k => ?_⟩
 ·have hP' : (bs.map Value.bool)[i]? = some v := by simpa using hP
  rw [List.getElem?_map] at hP'
  cases eb : bs[i]? with
  | none => rw [eb] at hP'; cases hP'
  | some b =>
    rw [eb] at hP'; cases hP'
    have hQ' : Q' (bs.getD i true) s' := hQ
    rw [List.getD_eq_getElem?_getD, eb] at hQ'
    exact wpAny_truthy_bool hQ'
 ·have e : (List.range (bs.map Value.bool).toArray.size).all (fun i => bs.getD i true) = bs.all id := by rw [<- all_range]; simp
  rw [e]
  refine ⟨.bl _, H, I.kept (t' := tk) fun b o e => k b o (fun z => ?_) (Heap.get?_push_of_some _ e), rfl, q⟩
  rw [List.mem_singleton] at z
  exact absurd (Heap.lt_size e) (by rw [z]; exact Nat.lt_irrefl _)
theorem bt_all : bootBuiltins "all" = some (.builtin "all") := by decide +kernel
noncomputable def boolsD : List D -> Option (List Bool)
 | [] => some []
 | .bool i :: l => (boolsD l).map (i :: ·)
 | _ :: _ => none
theorem boolsD_map : ∀ (ns : List Bool), boolsD (ns.map .bool) = some ns
 | [] => rfl
 | n :: ns => by rw [List.map_cons, boolsD, boolsD_map ns]; rfl
theorem boolsD_some : ∀ {l : List D} {ns : List Bool}, boolsD l = some ns -> l = ns.map .bool
 | [], _, h => by cases h; rfl
 | d :: l, ns, h => by
   cases d with
   | bool i =>
     rw [boolsD] at h
     cases e : boolsD l with
     | none => rw [e] at h; cases h
     | some m => rw [e] at h; cases h; rw [boolsD_some e]; rfl
   | _ => cases h
theorem HDs.toBools {K : PySem.W.Frag} {H : Hp} : ∀ {ns : List Bool} {xs : List V}, HDs K H xs (ns.map PyData.bool) -> xs = ns.map V.bl
 | [], _, h => by cases h; rfl
 | n :: ns, _, h => by
   rw [List.map_cons] at h
   cases h with
   | cons a t => cases a; rw [HDs.toBools t]; rfl
noncomputable def dAll : List D -> Option D
 | [.list l] => (boolsD l).map fun bs => .bool (bs.all id)
 | _ => none
set_option tactic.hygienic true in
theorem imp_all {K : PySem.W.Frag} : ImpC K (fun xs H Q => ∃ (p : Addr) (bs : List Bool), xs = [.ref p] /\ SqL K H p (bs.map V.bl) /\ Q (.bl (bs.all id)) H) dAll := by
 intro A H vs ds d Q al h e q
 unfold dAll at e
 split at e
 ·rename_i l
  cases eb : boolsD l with
  | none => rw [eb] at e; cases e
  | some bs =>
    rw [eb] at e; cases e
    obtain ⟨v, rfl, h1⟩ := sh1 h
    obtain ⟨p, xs, rfl, h2, h3⟩ := h1.list
    rw [boolsD_some eb] at h3
    rw [h3.toBools] at h2
    exact ⟨p, bs, rfl, h2.sq, q _ H (Same.refl H) (.bl _)⟩
 ·cases e
section
variable {X : Cx}
noncomputable def rCatT0 (K : PySem.W.Frag) : R2 := fun x y H Q => ∃ a b ys, x = .ref a /\ y = .ref b /\ SqT K H a [] /\ SqT K H b ys /\ Q (.ref b) H
theorem op_catT0 : OpR X (binaryOp .Add) (rCatT0 X.K) := by
 intro pins s σ H x y v u Q I rx ry h
 obtain ⟨a, b, ys, rfl, rfl, ha, hb, q⟩ := h
 cases rx
 cases ry
 obtain ⟨its, r1, p1, _⟩ := I.tuple ha
 obtain ⟨its2, r2, p2, _⟩ := I.tuple hb
 have e := r1.nil_iff.mpr rfl
 subst e
 obtain ⟨⟨c1, d1, dt1, sl1⟩, ho, hc, n, hd⟩ := id p1
 obtain ⟨⟨c2, d2, dt2, sl2⟩, ho2, hc2, n2, hd2⟩ := id p2
 simp only at hc hd hc2 hd2
 subst hc hd hc2 hd2
 exact concat_meets ⟨_, ho, rfl⟩ ⟨_, ho2, rfl⟩ noFill_tuple_add seq_tuple_add PySem.F.slot_tuple_add PySem.F.entry_tuple_add (PySem.F.args_tuple_add_2 _ _) (tuple_addW0 a b #[] its2.toArray n n2 d1 d2 sl1 sl2 (by simp)) ⟨ho, ho2, ⟨.ref b, H, I, rfl, q⟩⟩
end
noncomputable def dAddV (a b : D) : Option D := match a, b with
 | .tuple [], .tuple l => some (.tuple l)
 | a, b => dAdd a b
theorem op_addV {X : Cx} : OpR X (binaryOp .Add) (fun x y H Q => rAddU X.K x y H Q \/ rCatT0 X.K x y H Q) := op_addU.or op_catT0
theorem imp_addV {K : PySem.W.Frag} : Imp2 K (fun x y H Q => rAddU K x y H Q \/ rCatT0 K x y H Q) dAddV := by
 intro A H x y dx dy d Q al hx hy e q
 unfold dAddV at e
 split at e
 ·cases e
  have hf := hy.fz
  obtain ⟨a, xs, rfl, h1, h2⟩ := hx.tuple
  obtain ⟨b, zs, rfl, h3, h4⟩ := hy.tuple
  cases h2
  exact .inr ⟨a, b, zs, rfl, rfl, h1, h3, q _ H (Same.refl H) hf⟩
 ·exact .inl (imp_add A H x y _ _ d Q al hx hy e q)
noncomputable def IteT (K : PySem.W.Frag) (a : Addr) : It :=
 ⟨fun i H => ∃ xs x, SqT K H a xs /\ xs[i]? = some x, fun i H x H' => ∃ p v, H p = none /\ x = .ref p /\ H' = upd H p (.tup [.int i, v]) /\ ∀ xs, SqT K H a xs -> xs[i]? = some v, fun i H => ∃ xs, SqT K H a xs /\ xs.length = i⟩
theorem turn_enumT {P : Program} {w : World} {K : PySem.W.Frag} {es : List Expr} {kk} {tpos : Pos} (a e it : Addr) (hne : e ≠ it) : Turn P w K (.Tuple es kk tpos) (IteT K a) [e, it] e (fun i h => (∃ old, IsEnum h e it i old) /\ h.IsTupleIter it a i) where
 mem := by simp
 obj := fun i h st b hb => by
  obtain ⟨⟨old, he⟩, o, ho, c, d⟩ := st
  rcases List.mem_cons.mp hb with z | z
  ·subst z; exact ⟨_, he, fun v z => by cases z⟩
  ·have z : b = it := by simpa using z
   subst z; exact ⟨o, ho, fun v z => by rw [d] at z; cases z⟩
 keep := fun i h h' st k => by
  obtain ⟨⟨old, he⟩, st2⟩ := st
  exact ⟨⟨old, k e (by simp) _ he⟩, st2.at fun o eo => k it (by simp) o eo⟩
 item := by
  intro X hP hw hK hc i pins s σ H E I hf st hg
  subst hP hw hK
  obtain ⟨xs, x, hq, hx⟩ := hg
  obtain ⟨its, rv, p, hz⟩ := I.tuple hq
  obtain ⟨u, hu, ru⟩ := rv.get hx
  obtain ⟨⟨old, he⟩, st2⟩ := st
  have hp : s.heap.IsTuple a its.toArray := p
  have hea : e ≠ a := fun z => by
   obtain ⟨o, ho, hcl, _⟩ := hp
   rw [<- z] at ho
   have := ho.symm.trans he
   cases this
   exact absurd (Value.type.inj hcl) (by decide)
  have hia : a ≠ it := fun z => by
   obtain ⟨o, ho, hcl, _⟩ := hp
   obtain ⟨o2, ho2, hcl2, _⟩ := st2
   rw [z] at ho
   have := ho.symm.trans ho2
   cases this
   rw [hcl] at hcl2
   exact absurd (Value.type.inj hcl2) (by decide)
  have hil : i < its.toArray.size := by
   have := (List.getElem?_eq_some_iff.mp hu).1
   simpa using this
  refine wpAny_pyNext_enum_itemD (draws_tuple (A := X.A.in1) (I.ok.hd hc) it a hia its.toArray) he ⟨st2, hp⟩ hil hne (by simp [hne, hea]) fun y h1 tk hy heo hst1 ht1 hz1 hk1 => ?_
  have hyu : y = u := by
   have h3 : its.toArray[i]? = some u := by simpa using hu
   have h4 : its.toArray[i]? = some y := hy
   rw [h3] at h4; cases h4; rfl
  subst hyu
  refine ⟨_, rfl, wpAny_letOwnedTupleGo_enum heo fun h2 he2 hs2 => ?_⟩
  replace hs2 : Heap.SameBut e h1 h2 := hs2
  have heH : e < s.heap.objs.size := Heap.lt_size he
  have I1 : Inv X pins σ H { s with heap := h2, toks := tk + 1 } := I.turnedL (t' := tk + 1) (ch := [e, it]) (fun b o hb eo => by
   simp only [List.mem_cons, List.not_mem_nil, or_false, not_or] at hb
   exact (hs2.2 b hb.1).trans (hk1 b o hb.1 hb.2 eo)) hf
  have ht2 : IsTup h2 s.heap.objs.size [Value.int i tk, y].toArray := ⟨_, (hs2.2 _ (Nat.ne_of_gt heH)).trans ht1, rfl, _, rfl⟩
  have hfr : H s.heap.objs.size = none := I.hok.fresh (Nat.le_refl _)
  have fo := I.fpOk (H' := H) (Nat.le_refl _) hfr
  have I2 : Inv X pins σ (upd H s.heap.objs.size (.tup [.int i, x])) { s with heap := h2, toks := tk + 1 } := I1.trackT hfr (Nat.le_trans I.sz (Nat.le_refl _)) fo.2.1 fo.2.2.2.2.1 fo.2.2.2.2.2 ht2 (.cons ⟨_, rfl⟩ (.cons ru .nil)) (by show 2 <= sizeLine; decide)
  refine ⟨.ref s.heap.objs.size, _, I2, rfl, ⟨_, x, hfr, rfl, rfl, fun ys hy => by rw [I.tuple_inj hy hq]; exact hx⟩, ⟨⟨y, he2⟩, hst1.1.extBut hs2.extBut (Ne.symm hne)⟩, fun b hb => ?_⟩
  have hlt : b < s.heap.objs.size := by
   rcases List.mem_cons.mp hb with z | z
   ·subst z; exact heH
   ·have z : b = it := by simpa using z
    subst z
    obtain ⟨o, ho, _⟩ := st2
    exact Heap.lt_size ho
  rw [upd_ne (Nat.ne_of_lt hlt)]
  exact (hf b hb).1
 done := by
  intro X hP hw hK hc i pins s σ H E I hf st hg
  subst hP hw hK
  obtain ⟨xs, hq, hx⟩ := hg
  obtain ⟨its, rv, p, hz⟩ := I.tuple hq
  obtain ⟨⟨old, he⟩, st2⟩ := st
  have hp : s.heap.IsTuple a its.toArray := p
  have hia : a ≠ it := fun z => by
   obtain ⟨o, ho, hcl, _⟩ := hp
   obtain ⟨o2, ho2, hcl2, _⟩ := st2
   rw [z] at ho
   have := ho.symm.trans ho2
   cases this
   rw [hcl] at hcl2
   exact absurd (Value.type.inj hcl2) (by decide)
  have hl := rv.length
  have hsz : its.toArray.size = i := by rw [List.size_toArray, <- hl]; exact hx
  refine wpAny_pyNext_enum_endD (draws_tuple (A := X.A.in1) (I.ok.hd hc) it a hia its.toArray) he ⟨by rw [hsz]; exact st2, hp⟩ fun h1 eb => ⟨rfl, ?_⟩
  exact I.turnedL (t' := s.toks) (ch := [e, it]) (fun b o hb eo => eb b o (fun z => hb (by simp [z])) eo) hf
 self := fun _ _ _ _ _ st h => by
  obtain ⟨⟨old, he⟩, _⟩ := st
  exact wpAny_pyIter_enum he h
section
variable {X : Cx} {O : List Nat} {a : Expr} {ge : DS -> Option D} {p pos : Pos} {es : List Expr} {kk} {tpos : Pos}
noncomputable def iEnumT (K : PySem.W.Frag) (ta : TA) : TI := fun σ H R => ta σ H fun vs H1 => ∃ a xs, vs = [.ref a] /\ SqT K H1 a xs /\ R (IteT K a) H1
theorem pi_enumT {ta : TA} (hg : Gl X "enumerate") (hm : X.mg "enumerate" = none) (ha : PA X [a] ta) (hs : starEach [a] X.env = [(false, eval a X.env)] := by rfl) : PI X (.Tuple es kk tpos) (.Call (.Name "enumerate" p) [a] [] pos) (iEnumT X.K ta) := by
 intro pins s σ H R I h
 refine Call_ (ld_blt I hg hm bt_enumerate (PyProof.Rows.callWith_type1 (thn5 (ha pos pins s σ H _ I h) fun us s1 vs H1 I1 r1 q1 => ?_) hs rfl))
 obtain ⟨b, xs, e, hq, q⟩ := q1
 subst e
 obtain ⟨u, rfl, ru⟩ := vals1 r1
 cases ru
 obtain ⟨its, rv, pl, hz⟩ := I1.tuple hq
 refine call_enumT (show s1.heap.IsTuple b its.toArray from pl) fun h' he hit hsz hk => ?_
 refine wpAny_pyIter_enum he ?_
 refine ⟨s1.heap.objs.size + 1, [s1.heap.objs.size + 1, s1.heap.objs.size], _, _, H1, rfl, I1.kept (t' := s1.toks) hk, turn_enumT b _ s1.heap.objs.size (Nat.succ_ne_self _), ⟨⟨_, he⟩, hit⟩, fun b hb => ?_, q⟩
 have hle : s1.heap.objs.size <= b := by
  simp only [List.mem_cons, List.not_mem_nil, or_false] at hb
  rcases hb with z | z
  ·rw [z]; exact Nat.le_succ _
  ·rw [z]; exact Nat.le_refl _
 exact I1.fpOk hle (I1.hok.fresh hle)
noncomputable def gEnumT (g : DS -> Option D) : DS -> Option (List D) := fun δ => (g δ).bind fun | .tuple l => some (enumD l) | _ => none
theorem pd_enumT (hm : X.mg "enumerate" = none) (ha : PE X a (tE X.K O ge)) (hg : Gl X "enumerate" := by rfl) (hs : starEach [a] X.env = [(false, eval a X.env)] := by rfl) (hs0 : starEach ([] : List Expr) X.env = [] := by rfl) : PI X (.Tuple es kk tpos) (.Call (.Name "enumerate" p) [a] [] pos) (tI X.K O (gEnumT ge)) :=
 (pi_enumT hg hm (pa_cons ha pa_nil (by rw [hs, hs0])) hs).mono fun σ H Q hh => hh.e fun U A0 δ ds R ed q => by
  obtain ⟨x, e1, e2⟩ := bind1 ed
  cases x with
  | tuple l =>
    cases e2
    refine ⟨U, A0, δ, _, R, e1, fun v H' s h => ?_⟩
    cases h with
    | tup hq h =>
      refine ⟨_, _, rfl, .inl (wo_same.tupT hq), q _ H' s ?_⟩
      intro A' i H2 s2 al
      have h2 := h.same s2
      have hL : SqT X.K H2 _ _ := .inl (wo_same.tupT (s2.tupT hq))
      refine ⟨fun d hd => ?_, fun hi => ⟨_, hL, by rw [hi, enumD_len, h2.len]⟩⟩
      obtain ⟨y, hy, rfl⟩ := enumD_get hd
      obtain ⟨v, hv, hvd⟩ := h2.get hy
      refine ⟨⟨_, v, hL, hv⟩, fun z H3 hz => ?_⟩
      obtain ⟨p, v', hp, rfl, rfl, hv'⟩ := hz
      have := hv' _ hL
      rw [hv] at this
      cases this
      exact ⟨same_new hp _, HD.newT al hp (.cons (.int _) (.cons hvd .nil))⟩
  | _ => cases e2
end
end L2
namespace L2
open PySem PySem.Spec PyProof.Rows
noncomputable def keyOf1 : D -> Option Key
 | .int i => some (.inl i)
 | .str x => some (.inr x)
 | _ => none
noncomputable def keysOf : List D -> Option (List Key)
 | [] => some []
 | d :: ds => (keyOf1 d).bind fun k => (keysOf ds).bind fun ks => some (k :: ks)
noncomputable def keyOf : D -> Option (List Key)
 | .tuple ds => keysOf ds
 | _ => none
theorem keysOf_map : ∀ k : List Key, keysOf (k.map keyD) = some k
 | [] => rfl
 | .inl i :: k => by rw [List.map_cons, keysOf, keysOf_map k]; rfl
 | .inr i :: k => by rw [List.map_cons, keysOf, keysOf_map k]; rfl
theorem keysOf_vs {K : PySem.W.Frag} {H : Hp} : ∀ {xs : List V} {ds : List D} {k : List Key}, HDs K H xs ds -> keysOf ds = some k -> xs = k.map kV := by
 intro xs ds
 induction ds generalizing xs with
 | nil => intro k h e; cases h; cases e; rfl
 | cons d ds ih =>
  intro k h e
  rw [keysOf] at e
  obtain ⟨a, e1, e2⟩ := bind1 e
  obtain ⟨b, e3, e4⟩ := bind1 e2
  cases e4
  cases h with
  | cons h t =>
   rw [ih t e3, List.map_cons]
   cases h with
   | int i => cases e1; rfl
   | str x => cases e1; rfl
   | _ => cases e1
noncomputable def dLook (kds : List (D × D)) (k : List Key) : Option D := (kds.find? fun p => decide (keyOf p.1 = some k)).map (·.2)
noncomputable def dPutD (kds : List (D × D)) (k : List Key) (d : D) : List (D × D) :=
 if (kds.any fun p => decide (keyOf p.1 = some k)) = true then kds.map (fun p => if keyOf p.1 = some k then (p.1, d) else p) else kds ++ [(.tuple (k.map keyD), d)]
theorem dLook_pos {p : D × D} {r : List (D × D)} {k : List Key} (e : keyOf p.1 = some k) : dLook (p :: r) k = some p.2 := by simp [dLook, List.find?_cons, e]
theorem dLook_neg {p : D × D} {r : List (D × D)} {k : List Key} (e : ¬ keyOf p.1 = some k) : dLook (p :: r) k = dLook r k := by simp [dLook, List.find?_cons, e]
theorem dLook_any (k : List Key) : ∀ kds : List (D × D), (kds.any fun p => decide (keyOf p.1 = some k)) = (dLook kds k).isSome
 | [] => rfl
 | p :: r => by
   rw [List.any_cons]
   by_cases e : keyOf p.1 = some k
   ·simp only [dLook_pos e, decide_eq_true e, Bool.true_or, Option.isSome_some]
   ·rw [dLook_neg e, decide_eq_false e, Bool.false_or]; exact dLook_any k r
theorem dPutD_len (kds : List (D × D)) (k : List Key) (d : D) : (dPutD kds k d).length <= kds.length + 1 := by
 unfold dPutD
 split
 ·rw [List.length_map]; lia
 ·rw [List.length_append, List.length_cons, List.length_nil]; lia
inductive DK (K : PySem.W.Frag) (H : Hp) : List (List Key × V) -> List (D × D) -> Prop
 | nil : DK K H [] []
 | cons {k : List Key} {v : V} {d : D} {r : List (List Key × V)} {s : List (D × D)} : HD K H v d -> DK K H r s -> DK K H ((k, v) :: r) ((.tuple (k.map keyD), d) :: s)
section
variable {K : PySem.W.Frag} {H H' : Hp} {A : List Addr}
theorem DK.of : ∀ {kvs : List (List Key × V)} {kds : List (D × D)}, kds.map (·.1) = kvs.map (fun p => PyData.tuple (p.1.map keyD)) -> HDs K H (kvs.map (·.2)) (kds.map (·.2)) -> DK K H kvs kds := by
 intro kvs
 induction kvs with
 | nil =>
  intro kds e h
  cases kds with
  | nil => exact .nil
  | cons _ _ => cases e
 | cons kv r ih =>
  intro kds e h
  cases kds with
  | nil => cases e
  | cons xd s =>
   obtain ⟨k, v⟩ := kv
   obtain ⟨x, d⟩ := xd
   have e1 := (List.cons.inj e).1
   have e2 := (List.cons.inj e).2
   cases e1
   cases h with
   | cons h1 h2 => exact .cons h1 (ih e2 h2)
theorem DK.keys : ∀ {kvs : List (List Key × V)} {kds : List (D × D)}, DK K H kvs kds -> kds.map (·.1) = kvs.map (fun p => PyData.tuple (p.1.map keyD)) := by
 intro kvs kds h
 induction h with
 | nil => rfl
 | cons _ t ih => rw [List.map_cons, List.map_cons, ih]
theorem DK.vals : ∀ {kvs : List (List Key × V)} {kds : List (D × D)}, DK K H kvs kds -> HDs K H (kvs.map (·.2)) (kds.map (·.2)) := by
 intro kvs kds h
 induction h with
 | nil => exact .nil
 | cons h t ih => exact .cons h ih
theorem DK.own {kvs : List (List Key × V)} {kds : List (D × D)} (h : DK K H kvs kds) : OwO K H (.dT kvs) (.dict kds) := .dct h.keys h.vals
theorem DK.same {kvs : List (List Key × V)} {kds : List (D × D)} (s : Same H H') (h : DK K H kvs kds) : DK K H' kvs kds := DK.of h.keys (h.vals.same s)
theorem DK.len : ∀ {kvs : List (List Key × V)} {kds : List (D × D)}, DK K H kvs kds -> kvs.length = kds.length := by
 intro kvs kds h
 induction h with
 | nil => rfl
 | cons _ t ih => rw [List.length_cons, List.length_cons, ih]
theorem DK.look (k : List Key) : ∀ {kvs : List (List Key × V)} {kds : List (D × D)}, DK K H kvs kds -> (∀ d, dLook kds k = some d -> ∃ v, valV kvs k = some v /\ HD K H v d) /\ (dLook kds k = none -> valV kvs k = none) := by
 intro kvs kds h
 induction h with
 | nil => exact ⟨fun d e => (by cases e), fun _ => rfl⟩
 | @cons j v d r s h t ih =>
  have hj : keyOf (.tuple (j.map keyD)) = some j := keysOf_map j
  by_cases e : j = k
  ·subst e
   rw [dLook_pos (p := (PyData.tuple (j.map keyD), d)) hj, valV_pos (p := (j, v)) rfl]
   exact ⟨fun d' q => by cases q; exact ⟨v, rfl, h⟩, fun q => by cases q⟩
  ·rw [dLook_neg (p := (PyData.tuple (j.map keyD), d)) (by rw [hj]; exact fun z => e (Option.some.inj z)), valV_neg (p := (j, v)) e]
   exact ih
theorem DK.rep (k : List Key) {v : V} {d : D} (hv : HD K H v d) : ∀ {kvs : List (List Key × V)} {kds : List (D × D)}, DK K H kvs kds -> DK K H (kvs.map fun kv => if kv.1 = k then (kv.1, v) else kv) (kds.map fun p => if keyOf p.1 = some k then (p.1, d) else p) := by
 intro kvs kds h
 induction h with
 | nil => exact .nil
 | @cons j _ _ _ _ h t ih =>
  have hj : keyOf (.tuple (j.map keyD)) = some j := keysOf_map j
  rw [List.map_cons, List.map_cons]
  by_cases e : j = k
  ·rw [if_pos e, if_pos (by rw [hj, e])]; exact .cons hv ih
  ·rw [if_neg e, if_neg (by rw [hj]; exact fun z => e (Option.some.inj z))]; exact .cons h ih
theorem DK.app : ∀ {a : List (List Key × V)} {b : List (D × D)} {a' : List (List Key × V)} {b' : List (D × D)}, DK K H a b -> DK K H a' b' -> DK K H (a ++ a') (b ++ b') := by
 intro a b a' b' h q
 induction h with
 | nil => exact q
 | cons h t ih => exact .cons h ih
theorem DK.put {kvs : List (List Key × V)} {kds : List (D × D)} (h : DK K H kvs kds) (k : List Key) {v : V} {d : D} (hv : HD K H v d) : DK K H (putK kvs k v) (dPutD kds k d) := by
 have e : (kvs.any fun kv => decide (kv.1 = k)) = kds.any fun p => decide (keyOf p.1 = some k) := by
  rw [valV_any, dLook_any]
  cases q : dLook kds k with
  | none => rw [(h.look k).2 q]; rfl
  | some x => obtain ⟨w, hw, _⟩ := (h.look k).1 x q; rw [hw]; rfl
 unfold putK dPutD
 rw [e]
 split
 ·exact h.rep k hv
 ·exact h.app (.cons hv .nil)
theorem ShD.dk {x : V} {kds : List (D × D)} (h : ShD K A H x (.dict kds)) (hf : fnD kds = false) : ∃ a kvs, x = .ref a /\ H a = some (.dT kvs) /\ DK K (wo H A) kvs kds :=
 let ⟨a, kvs, e, h1, h2, h3⟩ := h.dict hf; ⟨a, kvs, e, h1, DK.of h2 h3⟩
theorem ShD.key {y : V} {d : D} {k : List Key} (h : ShD K A H y d) (e : keyOf d = some k) : ∃ b, y = .ref b /\ TupT H b (k.map kV) := by
 cases d with
 | tuple ds =>
   obtain ⟨b, ys, rfl, hb, hd⟩ := h.tupH
   exact ⟨b, rfl, by rw [<- keysOf_vs hd e]; exact hb⟩
 | _ => cases e
end
noncomputable def gDin (b : Bool) (gk gd : DS -> Option D) : DS -> Option D := fun δ => (gk δ).bind fun y => (gd δ).bind fun x => match x with
 | .dict kds => if fnD kds = true then none else (keyOf y).bind fun k => some (.bool ((dLook kds k).isSome == b))
 | _ => none
noncomputable def gSetK (i : Nat) (gk ge : DS -> Option D) : DS -> Option Res := fun δ => (ge δ).bind fun d => (gVar i δ).bind fun x => (gk δ).bind fun y => match x with
 | .dict kds => (keyOf y).bind fun k => if kds.length < 100000 then some (.nx (δ.set i (some (.dict (dPutD kds k d))))) else none
 | _ => none
noncomputable def gSetD (i : Nat) (g : DS -> Option (List (D × D))) : DS -> Option Res := fun δ => (g δ).bind fun d => some (.nx (δ.set i (some (.dict d))))
noncomputable def gDnew : DS -> Option (List (D × D)) := fun _ => some []
noncomputable def gDisp1 (gk ge : DS -> Option D) : DS -> Option (List (D × D)) := fun δ => (gk δ).bind fun y => (ge δ).bind fun d => (keyOf y).bind fun k => some [(.tuple (k.map keyD), d)]
noncomputable def tNd (K : PySem.W.Frag) (O : List Nat) (g : DS -> Option (List (D × D))) : TE := fun σ H Q => ∃ U A0 δ kds, Rel K O U A0 σ δ H /\ g δ = some kds /\
 ∀ r kvs H', Same H H' -> H r = none -> H' r = some (.dT kvs) -> DK K (wo H' (r :: (U ++ A0))) kvs kds -> Q (.ref r) H'
section
variable {X : Cx} {O : List Nat} {fr : Fr} {st : Stmt} {gd gk ge : DS -> Option D} {gl : DS -> Option (List (D × D))} {o i e f value : Expr} {pos apos cpos : Pos}
theorem DK.isS {K : PySem.W.Frag} {H : Hp} {kvs : List (List Key × V)} {kds : List (D × D)} (h : DK K H kvs kds) (k : List Key) : (valV kvs k).isSome = (dLook kds k).isSome := by
 cases q : dLook kds k with
 | none => rw [(h.look k).2 q]; rfl
 | some x => obtain ⟨w, hw, _⟩ := (h.look k).1 x q; rw [hw]; rfl
set_option tactic.hygienic true in
theorem pd_setK {i : Nat} (h : PS X st (sDPut (tVar i) (tSh X.K O gk) (tE X.K O ge))) (hi : i ∈ O := by decide) : PS X st (tS X.K O fr (gSetK i gk ge)) := h.mono fun E σ H hh => hh.e fun H0 U A0 δ r R F ed P => by
 obtain ⟨d, e1, e2⟩ := bind1 ed
 obtain ⟨x, e3, e4⟩ := bind1 e2
 obtain ⟨y, e5, e6⟩ := bind1 e4
 obtain ⟨l, o, hl, hU, h1, h2⟩ := R.ow i x hi (join_some e3)
 cases h2 with
 | lst _ => cases e6
 | dct kk hv =>
   obtain ⟨k, e7, e8⟩ := bind1 e6
   split at e8
   ·rename_i hz
    cases e8
    refine ⟨U, A0, δ, d, R, e1, fun v H1 s1 hv1 => ⟨.ref l, hl, U, A0, δ, y, R.same s1, e5, fun v2 H2 s2 h3 => ?_⟩⟩
    obtain ⟨b, rfl, hb⟩ := h3.key e7
    have dk := DK.of kk hv
    have hlen := dk.len
    have dk2 := dk.same (wo_mono (A := U ++ A0) (s1.trans s2))
    refine ⟨l, _, rfl, DPut.t ((s1.trans s2) _ _ h1) hb (small' (by lia)), ?_⟩
    exact P U σ _ ((R.same (s1.trans s2)).putO hi hl hU (dk2.put k (hv1.same (wo_mono s2))).own ⟨_, join_some e3⟩) ((F.grow (s1.trans s2)).put hU _)
   ·cases e8
theorem pd_setD {i : Nat} (h : PS X st (tAsg (tNd X.K O gl) (gName i))) (hi : i ∈ O := by decide) : PS X st (tS X.K O fr (gSetD i gl)) := h.mono fun E σ H hh => hh.e fun H0 U A0 δ r R F ed P => by
 obtain ⟨d, e1, e2⟩ := bind1 ed
 cases e2
 exact ⟨U, A0, δ, d, R, e1, fun r kvs H' s hr h1 h2 => P (r :: U) _ H' (R.setO s hr h1 h2.own hi) (F.more s hr)⟩
theorem pd_dnew : PE X (.Dict [] [] pos) (tNd X.K O gDnew) := pe_dnewT.mono <| by
 rintro σ H Q ⟨U, A0, δ, d, R, ed, q⟩ p hp
 cases ed
 exact q p [] _ (same_new hp _) hp upd_same .nil
theorem Rel.hideO {K : PySem.W.Frag} {O : List Nat} {U A0 : List Addr} {σ : St} {δ : DS} {H H' : Hp} (R : Rel K O U A0 σ δ H) (s : Same H H') {r : Addr} {o : HO} (hr : H r = none) (h : H' r = some o) (ho : OwnO o) : Rel K O U (r :: A0) σ δ H' := by
 have k : Same (wo H (U ++ A0)) (wo H' (U ++ (r :: A0))) := fun b o q => by
  obtain ⟨h1, h2⟩ := wo_some q
  rw [wo_out]
  ·exact s b o h2
  ·simp only [List.mem_append, List.mem_cons, not_or] at h1 ⊢
   exact ⟨h1.1, ne_of_none h2 hr, h1.2⟩
 exact {
  len := R.len
  fz := fun i d hi e => let ⟨v, a, b⟩ := R.fz i d hi e; ⟨v, a, b.same k⟩
  ow := fun i d hi e => let ⟨l, o, a, c, f, g⟩ := R.ow i d hi e; ⟨l, o, a, c, s _ _ f, g.same k⟩
  inj := R.inj
  al := ⟨fun a ha => by
   simp only [List.mem_append, List.mem_cons] at ha
   rcases ha with z | z | z
   ·exact (R.al.same s).1 a (by simp [z])
   ·subst z; exact ⟨_, h, ho⟩
   ·exact (R.al.same s).1 a (by simp [z]), (R.al.same s).2⟩ }
noncomputable def tDisp1 (tk tv : TE) : TE := fun σ H Q => ∀ p, H p = none -> tPairs [(tk, tv)] σ (upd H p (.dT [])) fun ps H2 => H2 p = some (.dT []) /\ ∃ b ks y, ps = [(.ref b, y)] /\ TupT H2 b (ks.map kV) /\ Q (.ref p) (upd H2 p (.dT [(ks, y)]))
theorem pe_disp1 {k v : Expr} {tk tv : TE} (hu : X.A.units + 1 < cLine) (hk : PE X k tk) (hv : PE X v tv) : PE X (.Dict [some k] [v] pos) (tDisp1 tk tv) := by
 intro pins s σ H Q I q
 have hn := I.hok.fresh (Nat.le_refl s.heap.objs.size)
 have I1 := I.laid (a := s.heap.objs.size) (o := .dT []) (h' := s.heap.push { cls := .type "dict", data := .dict #[] }) (t' := s.toks) (fun _ _ q => Heap.get?_push_of_some _ q) (Nat.le_refl _) (dt_empty s.heap I.big)
 have pp : PPs X pos [some k] [v] [(tk, tv)] := pps_cons hk hv pps_nil
 refine wpAny_Dict_any rfl rfl (by simp) (by simp) (thn5 (pp pins _ σ _ _ I1 (q _ hn)) fun ws s2 ps H2 I2 rel q9 => ?_)
 obtain ⟨e, b, ks, y, e2, e4, q2⟩ := q9
 subst e2
 cases rel with
 | @cons _ w _ _ h t =>
   cases t
   obtain ⟨u1, u2⟩ := w
   obtain ⟨r1, r2⟩ := h
   cases (show u1 = Value.ref b from r1)
   have hf : storeAll s.heap.objs.size [(Value.ref b, u2)] = (do dictSet s.heap.objs.size (Value.ref b) u2) := by
    unfold storeAll
    rw [List.forIn_cons]
    simp
   rw [hf]
   obtain ⟨z, hd, xs, rl, dd⟩ := dt_of I2.hok e
   cases rl
   refine wpAny_dictSet_heap (show X.A.units < cLine by lia) (key_of I2.hok e4) dd (fun h' dd' hs => ⟨.ref s.heap.objs.size, _, ?_, rfl, q2⟩) (Nat.zero_le _)
   obtain ⟨q, es, ep, hq, h2, h3, h4, _, h5⟩ := dd'
   have rel0 : KT H2 [] [] := .nil
   refine d_write I2 (by rw [e]; exact True.intro) hs ⟨q, hq⟩ ⟨small (by simp), hd, _, (rel0.put ks e4 r2).keeps fun c ys ec => ?_, q, es, ep, hq, h2, h3, h4, h5⟩
   exact ec.dT e
theorem pd_disp1 {k v : Expr} (hu : X.A.units + 1 < cLine) (hk : PE X k (tSh X.K O gk)) (hv : PE X v (tE X.K O ge)) : PE X (.Dict [some k] [v] pos) (tNd X.K O (gDisp1 gk ge)) := (pe_disp1 hu hk hv).mono <| by
 rintro σ H Q ⟨U, A0, δ, d, R, ed, q⟩ p hp
 obtain ⟨y, e1, e2⟩ := bind1 ed
 obtain ⟨d', e3, e4⟩ := bind1 e2
 obtain ⟨ks, e5, e6⟩ := bind1 e4
 cases e6
 have s0 := same_new hp (.dT [])
 have R0 : Rel X.K O U (p :: A0) σ δ (upd H p (.dT [])) := R.hideO s0 hp upd_same trivial
 refine ⟨U, p :: A0, δ, y, R0, e1, fun v H1 s1 h1 => ⟨U, p :: A0, δ, d', R0.same s1, e3, fun w H2 s2 h2 => ?_⟩⟩
 obtain ⟨b, rfl, hb⟩ := (h1.same s2).key e5
 have hH2 : H2 p = some (.dT []) := (s1.trans s2) _ _ upd_same
 refine ⟨hH2, b, ks, w, rfl, hb, q p _ _ (s0.trans (s1.trans s2) |>.upd hp _) hp upd_same ?_⟩
 have ew : wo (upd H2 p (.dT [(ks, w)])) (p :: (U ++ A0)) = wo H2 (p :: (U ++ A0)) := wo_own (by simp)
 rw [ew]
 exact .cons (h2.same (wo_sub fun a ha => by simp only [List.mem_append, List.mem_cons] at ha ⊢; rcases ha with z | z | z; exact .inr (.inl z); exact .inl z; exact .inr (.inr z))) .nil
end
end L2
namespace LS
open PySem PySem.Spec PyProof.Rows
section
variable {prog : Program} {w : World} {A : Around} {E : Value -> Shared -> Prop} {s : Shared}
end
end LS
namespace LS
open PySem PySem.Spec PyProof.Rows
section
variable {prog : Program} {w : World} {A : Around} {E : Value -> Shared -> Prop} {s : Shared}
end
end LS
namespace L2
open PySem PySem.Spec PyProof.Rows LS
section
variable {X : Cx} {O : List Nat} {a : Expr} {ge : DS -> Option D} {p pos : Pos} {es : List Expr} {kk} {tpos : Pos}
end
end L2
namespace L2
open PySem PySem.Spec PyProof.Rows LS
section
variable {X : Cx} {O : List Nat} {a b : Expr} {ga gb : DS -> Option D} {p pos : Pos} {es : List Expr} {kk} {tpos : Pos}
end
end L2
namespace L2
open PySem PySem.Spec PyProof.Rows
section
variable {X : Cx} {O : List Nat} {e : Expr}
end
end L2
namespace L2
open PySem PySem.Spec PyProof.Rows
noncomputable def dInT (neg : Bool) : D -> D -> Option D := fun x y => match y with
 | .list l => if (SeqAt.shaped x && l.all SeqAt.shaped) = true then some (.bool ((l.any fun z => PyData.eqv z x) != neg)) else none
 | .tuple l => if (SeqAt.shaped x && l.all SeqAt.shaped) = true then some (.bool ((l.any fun z => PyData.eqv z x) != neg)) else none
 | _ => none
noncomputable def rInD (K : PySem.W.Frag) (neg : Bool) : R2 := fun x y H Q => ∃ dy ds dx, HD K H y dy /\ (dy = .list ds \/ dy = .tuple ds) /\ HD K H x dx /\ SeqAt.shaped dx = true /\ ds.all SeqAt.shaped = true /\ Q (.bl ((ds.any fun z => PyData.eqv z dx) != neg)) H
theorem lay0_all {ds : List D} (h : ds.all SeqAt.shaped = true) : PyData.canLayAll0 ds = true := by
 induction ds with
 | nil => rfl
 | cons d ds ih =>
   rw [List.all_cons, Bool.and_eq_true] at h
   have h1 := h.1
   unfold SeqAt.shaped at h1
   rw [Bool.and_eq_true] at h1
   rw [PyData.canLayAll0, h1.1, ih h.2]
   rfl
section
variable {X : Cx}
theorem in_room {k : Nat} {ds : List D} {dx : D} (hr : Room k X.A) (sx : SeqAt.shaped dx = true) : X.A.units + 1 + min (PyData.depthAll ds) dx.depth < cLine := by
 unfold SeqAt.shaped at sx
 rw [Bool.and_eq_true, decide_eq_true_eq] at sx
 have := hr.un
 have := sx.2
 lia
theorem op_inD {k : Nat} (hr : Room k X.A) : OpR X (compareOp .In) (rInD X.K false) := by
 intro pins s σ H x y v u Q I rx ry h
 obtain ⟨dy, ds, dx, hy, hd, hx, sx, sds, q⟩ := h
 obtain ⟨as, r1⟩ := hx.reads I rx (shaped_lay sx)
 rw [Bool.bne_false] at q
 rcases hd with rfl | rfl
 ·obtain ⟨bs, r2⟩ := hy.reads I ry (by rw [PyData.canLay0]; exact lay0_all sds)
  exact SeqAt.in_list_reads r2 r1 (lay0_all sds) (shaped_lay sx) (in_room hr sx) ⟨.bl _, H, I, rfl, q⟩
 ·obtain ⟨bs, r2⟩ := hy.reads I ry (by rw [PyData.canLay0]; exact lay0_all sds)
  exact SeqAt.in_tuple_reads r2 r1 (lay0_all sds) (shaped_lay sx) (in_room hr sx) ⟨.bl _, H, I, rfl, q⟩
theorem op_notInD {k : Nat} (hr : Room k X.A) : OpR X (compareOp .NotIn) (rInD X.K true) := by
 intro pins s σ H x y v u Q I rx ry h
 obtain ⟨dy, ds, dx, hy, hd, hx, sx, sds, q⟩ := h
 obtain ⟨as, r1⟩ := hx.reads I rx (shaped_lay sx)
 rw [Bool.bne_true] at q
 rcases hd with rfl | rfl
 ·obtain ⟨bs, r2⟩ := hy.reads I ry (by rw [PyData.canLay0]; exact lay0_all sds)
  exact SeqAt.notIn_list_reads r2 r1 (lay0_all sds) (shaped_lay sx) (in_room hr sx) ⟨.bl _, H, I, rfl, q⟩
 ·obtain ⟨bs, r2⟩ := hy.reads I ry (by rw [PyData.canLay0]; exact lay0_all sds)
  exact SeqAt.notIn_tuple_reads r2 r1 (lay0_all sds) (shaped_lay sx) (in_room hr sx) ⟨.bl _, H, I, rfl, q⟩
end
set_option tactic.hygienic true in
theorem imp_inD {K : PySem.W.Frag} {neg : Bool} : Imp2 K (rInD K neg) (dInT neg) := by
 intro A H x y dx dy d Q al hx hy e q
 unfold dInT at e
 cases dy with
 | list l =>
   simp only at e
   split at e
   ·rename_i c
    rw [Bool.and_eq_true] at c
    cases e
    exact ⟨_, l, dx, hy.isD, .inl rfl, hx.isD, c.1, c.2, q _ H (Same.refl H) (.bl _)⟩
   ·cases e
 | tuple l =>
   simp only at e
   split at e
   ·rename_i c
    rw [Bool.and_eq_true] at c
    cases e
    exact ⟨_, l, dx, hy.isD, .inr rfl, hx.isD, c.1, c.2, q _ H (Same.refl H) (.bl _)⟩
   ·cases e
 | _ => cases e
end L2
namespace L2
open PySem PySem.Spec PyProof.Rows
set_option tactic.hygienic true in
theorem gComp_L (gi : DS -> Option (List D)) (ix : List Nat) (ge : DS -> Option D) : gComp gi ix ge = gCompL gi 1 ix (gName' 0) (fun _ => some true) ge := by
 funext δ
 unfold gComp gCompL
 cases gi δ with
 | none => rfl
 | some ds =>
   rw [Option.bind_some, Option.bind_some]
   split
   ·induction ds with
    | nil => rfl
    | cons d ds ih =>
      rename_i h
      rw [mapD, fltD, ih (by rw [List.length_cons] at h; lia)]
      show _ = Option.bind (Option.map some (ge (some d :: captD ix δ))) _
      cases ge (some d :: captD ix δ) <;> rfl
   ·rfl
section
variable {X : Cx} {O : List Nat} {gi : DS -> Option (List D)} {ix : List Nat} {ge : DS -> Option D}
theorem PE.asC {e : Expr} (h : PE X e (tN X.K O (gCompL gi 1 ix (gName' 0) (fun _ => some true) ge))) : PE X e (tN X.K O (gComp gi ix ge)) := by rw [gComp_L]; exact h
end
end L2
namespace L2
open PySem PySem.Spec PyProof.Rows PySem.Calls
set_option maxRecDepth 100000
section
variable {prog : Program} {w : World} {A : Around} {E : Value -> Shared -> Prop} {s : Shared}
end
section
variable {X : Cx} {O : List Nat} {a : Expr} {ge : DS -> Option D} {p1 p2 q1 q2 : Pos} {ta : TA}
end
end L2
namespace LS
open PySem PySem.Spec PyProof.Rows
section
variable {prog : Program} {w : World} {A : Around} {E : Value -> Shared -> Prop} {s : Shared} {it d : Addr} {i n ep : Nat} {od : Obj} {es : Array DictEntry}
end
end LS
namespace L2
open PySem PySem.Spec PyProof.Rows
section
variable {P : Program} {w : World} {K : PySem.W.Frag} {mg : Str -> Option Value} {base : Heap} {x : Str} {st : Stmt} {N ps : List Str} {k : Nat}
end
section
variable {X : Cx} {O : List Nat} {e : Expr} {es : List Expr} {gr : DS -> Option (List D)} {pos p : Pos} {n k kk : Nat} {x : Str} {ps : List Str}
end
section
variable {X : Cx} {O : List Nat} {gk gd : DS -> Option D} {i o : Expr} {pos : Pos}
set_option tactic.hygienic true in
theorem pd_tdin (hu : X.A.units + 1 < cLine) (hi : PE X i (tSh X.K O gk)) (ho : PE X o (tSh X.K O gd)) (hm : behindInMarks .In o = false := by rfl) : PT X (.Compare i [.In] [o] pos) (tT X.K O (gB (gDin true gk gd))) :=
 (pt_cmp (pc_din hu hi ho) hm).mono fun σ H Q hh => hh.e fun U A0 δ b R ed q => by
 obtain ⟨d, e0, e00⟩ := bind1 ed
 obtain ⟨y, e1, e2⟩ := bind1 e0
 obtain ⟨x, e3, e4⟩ := bind1 e2
 refine ⟨U, A0, δ, y, R, e1, fun v H1 s1 h1 => ⟨U, A0, δ, x, R.same s1, e3, fun v2 H2 s2 h2 => ?_⟩⟩
 cases x with
 | dict kds =>
   have e4 : (if fnD kds = true then none else (keyOf y).bind fun k => some (PyData.bool ((dLook kds k).isSome == true))) = some d := e4
   split at e4
   ·cases e4
   rename_i hf
   have hf := Bool.eq_false_iff.mpr hf
   obtain ⟨k, e5, e6⟩ := bind1 e4
   cases e6
   obtain ⟨a, kvs, rfl, ha, dk⟩ := h2.dk hf
   obtain ⟨b, rfl, hb⟩ := (h1.same s2).key e5
   cases e00
   refine ⟨a, _, rfl, DGet.t ha hb, _, rfl, ?_⟩
   have q := q H2 (s1.trans s2)
   rw [<- dk.isS k, beq_true] at q
   exact q
 | _ => cases e4
end
theorem Inv.freeze {X : Cx} {pins : List (Addr × Obj)} {σ : St} {H : Hp} {s : Shared} {r : Addr} {kvs : List (List Key × V)} (I : Inv X pins σ H s) (h : H r = some (.dT kvs)) : ∃ ob, Inv X pins σ (upd H r (.frz ob (.dT kvs))) s := by
 obtain ⟨hz, hs, xs, pr, ob, es, ep, e1, e2, e3, e4, e5⟩ := (show ObjOk X.prog X.w H s.heap r (.dT kvs) from I.hok r _ h)
 refine ⟨ob, d_write (t' := s.toks) (h' := s.heap) I (by rw [h]; trivial) ⟨rfl, fun _ _ => rfl⟩ ⟨ob, e1⟩ ⟨e1, hz, hs, xs, ?_, ob, es, ep, e1, e2, e3, e4, e5⟩⟩
 refine Paired.imp' (fun p q z => ⟨z.1, ?_, z.2.2⟩) pr
 have t := z.2.1
 have hne : q.2.1 ≠ r := fun y => by rw [y] at t; rcases t with t | ⟨o, t⟩ <;> rw [h] at t <;> cases t
 rcases t with t | ⟨o, t⟩
 ·exact .inl (by rw [upd_ne hne]; exact t)
 ·exact .inr ⟨o, by rw [upd_ne hne]; exact t⟩
section
variable {X : Cx} {O : List Nat} {e : Expr} {gl : DS -> Option (List (D × D))}
end
noncomputable def gDinF (gk gd : DS -> Option D) : DS -> Option D := fun δ => (gk δ).bind fun y => (gd δ).bind fun x => match x with
 | .dict ((.list [], .bool true) :: kds) => (keyOf y).bind fun k => some (.bool (dLook kds k).isSome)
 | _ => none
section
variable {X : Cx} {O : List Nat} {gk gd : DS -> Option D} {i o : Expr} {pos : Pos} {K : PySem.W.Frag} {A : List Addr} {H : Hp}
theorem ShD.frz {x : V} {kds : List (D × D)} (h : ShD K A H x (.dict ((.list [], .bool true) :: kds))) : ∃ a ob kvs, x = .ref a /\ H a = some (.frz ob (.dT kvs)) /\ DK K (wo H A) kvs kds := by
 rcases h with h | ⟨l, o, rfl, e, q⟩
 ·cases h with
  | @dct _ kvs _ _ kk _ =>
    cases kvs with
    | nil => cases kk
    | cons a b => cases (List.cons.inj kk).1
  | fz hq k h => exact ⟨_, _, _, rfl, wo_same _ _ hq, DK.of k h⟩
 ·cases q with
  | @dct kvs _ kk _ =>
    cases kvs with
    | nil => cases kk
    | cons a b => cases (List.cons.inj kk).1
theorem pd_dinF (hu : X.A.units + 1 < cLine) (hi : PE X i (tSh X.K O gk)) (ho : PE X o (tSh X.K O gd)) (hm : behindInMarks .In o = false := by rfl) : PE X (.Compare i [.In] [o] pos) (tE X.K O (gDinF gk gd)) := (pe_cmp (pc_din hu hi ho) hm).mono fun σ H Q hh => hh.e fun U A0 δ d R ed q => by
 obtain ⟨y, e1, e2⟩ := bind1 ed
 obtain ⟨x, e3, e4⟩ := bind1 e2
 refine ⟨U, A0, δ, y, R, e1, fun v H1 s1 h1 => ⟨U, A0, δ, x, R.same s1, e3, fun v2 H2 s2 h2 => ?_⟩⟩
 split at e4
 ·obtain ⟨k, e5, e6⟩ := bind1 e4
  cases e6
  obtain ⟨a, ob, kvs, rfl, ha, dk⟩ := h2.frz
  obtain ⟨b, rfl, hb⟩ := (h1.same s2).key e5
  refine ⟨a, _, rfl, .inr ⟨kvs, k, b, .inr ⟨ob, ha⟩, rfl, hb, rfl⟩, q _ H2 (s1.trans s2) ?_⟩
  rw [dk.isS k]; exact .bl _
 ·cases e4
end
section
variable {X : Cx} {O : List Nat} {tg e : Expr} {ge : DS -> Option D}
end
end L2
namespace L2
open PySem PySem.Spec PyProof.Rows
noncomputable def cxCl (CX : CXT) (P : Program) (w : World) (K : PySem.W.Frag) (mg : Str -> Option Value) (base : Heap) (N : List Str) (qual : Str) (scope : Scope) (f : Addr) (cd : Value) (cl : List (Str × Addr)) (A : Around) (outer : List Env) (s : Shared) (H : Hp) (E : XK) : Cx where
 prog := P
 w := w
 K := K
 mg := mg
 base := base
 A := A.deeper (PySem.W.envX qual scope s.heap.objs.size f cd cl)
 N := N
 s₀ := s
 H₀ := H
 env := PySem.W.envX qual scope s.heap.objs.size f cd cl
 outer := outer
 stack := PySem.W.envX qual scope s.heap.objs.size f cd cl :: outer
 ex := []
 calm := true
 fn := fun _ => false
 pn := []
 xe := fun e s' => wpAny (model P w) (A.deeper (PySem.W.envX qual scope s.heap.objs.size f cd cl)) (leaving (PySem.W.envX qual scope s.heap.objs.size f cd cl) e) (fun _ s'' => CX outer H s E e s'') (fun e' s'' => CX outer H s E e' s'') s'
structure ClScope (ps fv : List Str) (sc : Scope) (cl : List (Str × Addr)) : Prop where
 kind : sc.kind = .function
 co : sc.isCoroutine = false
 gen : sc.isGenerator = false
 nocell : ∀ y ∈ sc.names, y.2 ≠ .cell
 nd : (ps ++ fv).Nodup
 par : ∀ x ∈ ps, sc.names.lookup x = some .local
 fr : ∀ x ∈ fv, sc.names.lookup x = some .free
 only : ∀ x, sc.names.lookup x = some .free -> ∃ c, cl.lookup x = some c
 inj : ∀ x y c, cl.lookup x = some c -> cl.lookup y = some c -> x = y
theorem look_mem {y : Str} {u : Value} : ∀ {l : List (Str × Value)}, (l.map (·.1)).Nodup -> (y, u) ∈ l -> l.lookup y = some u
 | (z, w) :: l, nd, h => by
   rw [List.map_cons, List.nodup_cons] at nd
   rcases List.mem_cons.mp h with e | e
   ·cases e; rw [List.lookup_cons]; simp
   ·have hne : (y == z) = false := by
     cases q : y == z with
     | false => rfl
     | true => rw [<- eq_of_beq q] at nd; exact absurd (List.mem_map.mpr ⟨_, e, rfl⟩) nd.1
    rw [List.lookup_cons, hne]
    exact look_mem nd.2 e
theorem zip_fst_sub : ∀ (ps : List Str) (us : List Value), ((ps.zip us).map (·.1)).Sublist ps
 | [], _ => by simp
 | p :: ps, [] => by simp
 | p :: ps, u :: us => by rw [List.zip_cons_cons, List.map_cons]; exact (zip_fst_sub ps us).cons₂ p
theorem look_zip {ps : List Str} {us : List Value} {i : Nat} {y : Str} {u : Value} (nd : ps.Nodup) (h1 : ps[i]? = some y) (h2 : us[i]? = some u) : (ps.zip us).reverse.lookup y = some u := by
 refine look_mem ?_ (List.mem_reverse.mpr ?_)
 ·rw [List.map_reverse]
  refine List.pairwise_reverse.mpr (List.Pairwise.imp (fun h => Ne.symm h) ?_)
  exact nd.sublist (zip_fst_sub ps us)
 ·exact List.mem_of_getElem? (i := i) (by rw [List.getElem?_zip_eq_some]; exact ⟨h1, h2⟩)
theorem fn_cl {P : Program} {w : World} {K : PySem.W.Frag} {mg : Str -> Option Value} {base : Heap} {k : Nat} {f c' : Addr} {name qual : Str} {params : Arguments} {body : Expr} {scope : Scope} {cl : List (Str × Addr)} {pm ctv : Value} {ps fv : List Str} {cvs : List V} {sp : Sp}
  (hf : base.get? f = some (PySem.W.kla_obj name qual params body scope cl pm c' ctv)) (S : ClScope ps fv scope cl) (hcv : cvs.length = fv.length)
  (cells : ∀ (i : Nat) (x : Str) (v : V), fv[i]? = some x -> cvs[i]? = some v -> ∃ c u, cl.lookup x = some c /\ base.IsCell c (some u) /\ RelV v u)
  (allc : ∀ x c, cl.lookup x = some c -> ∃ v, base.IsCell c v)
  (len : ∀ vs H Q E, sp vs H Q E -> vs.length = ps.length) (code : ∀ vs H Q E, sp vs H Q E -> H c' = some (.code qual))
  (hbody : ∀ (A : Around) (outer : List Env) (s : Shared) (H : Hp) (vs : List V) (Q : VK) (E : XK), Room k (A.deeper (PySem.W.envX qual scope s.heap.objs.size f (.ref c') cl)) -> sp vs H Q E ->
   ∃ t, PE (cxCl CX0 P w K mg base (ps ++ fv) qual scope f (.ref c') cl A outer s H E) body t /\ t ((vs ++ cvs).map some) H Q) :
  FnOk P w K mg base CX0 (k + 1) f (PySem.W.kla_fn name qual params body scope cl pm (.ref c') ctv) ps sp := by
 refine ⟨len, fun A outer s H args us vs Q E hr e0 hb r hsp => ?_⟩
 have hl := len _ _ _ _ hsp
 have lim : s.heap.NoLimit := e0.mod.nolimit.keeps fun b o e => (e0.bs b o e).1
 have hcr : s.heap.CodeRec (.ref c') qual := e0.hok c' _ (code _ _ _ _ hsp)
 refine PySem.W.kla_callFunE hr.depth (e0.bs f _ hf).1 rfl S.co S.gen rfl hcr (hb _ _ _ _ ?_)
 refine wpAny_newFunctionEnv S.nocell (fun y hy => S.par y.1 (List.of_mem_zip hy).1) (fun h' ns sb => ?_) S.kind
 have kp : ∀ b o, s.heap.get? b = some o -> h'.get? b = some o := fun b o e => (sb.2 b (Nat.ne_of_lt (Heap.lt_size e))).trans (Heap.get?_push_of_some _ e)
 refine ⟨lim.keeps kp, PySem.W.kla_codeExpr ?_⟩
 obtain ⟨t, ht, hq⟩ := hbody A outer s H vs Q E (hr.deeper _) hsp
 have hls : us.length = ps.length := by rw [<- r.length]; exact hl
 have I : Inv (cxCl CX0 P w K mg base (ps ++ fv) qual scope f (.ref c') cl A outer s H E) [] ((vs ++ cvs).map some) H { s with heap := h', toks := s.toks + (ps.zip us).length } := by
  have noA : ∀ b : Addr, b ∉ (cxCl CX0 P w K mg base (ps ++ fv) qual scope f (.ref c') cl A outer s H E).ex := fun b z => absurd (show b ∈ ([] : List Addr) from z) (by simp)
  refine ⟨⟨e0.mod, S.kind, rfl, rfl, Nat.le_refl _, S.inj, fun y hy => ?_, fun y c h => (by cases h), fun _ => hr.hd, Around.frames_deeper e0.frames, .inr ⟨rfl, rfl⟩, fun b z => absurd z (noA b), e0.bs, e0.bsz, fun b _ _ => noA b, fun b z => absurd z (noA b), e0.funs, e0.frf⟩,
   rfl, e0.bare, Un.kept kp, ⟨_, ns, fun i y v h1 h2 h3 => ?_⟩, fun y c h => ?_, e0.hok.fresh (Nat.le_refl _), fun y c h => ?_, fun p hp => absurd (show p ∈ ([] : List (Addr × Obj)) from hp) (by simp), e0.hok.kept kp, ?_⟩
  ·have hy : scope.names.lookup y = some .cell \/ scope.names.lookup y = some .free := hy
   rcases hy with hy | hy
   ·exact absurd rfl (S.nocell _ (PySem.mem_of_lookup hy))
   ·exact S.only y hy
  ·have h1 : (ps ++ fv)[i]? = some y := h1
   have h2 : ((vs ++ cvs).map some)[i]? = some (some v) := h2
   have ha : (vs ++ cvs)[i]? = some v := by
    rw [List.getElem?_map] at h2
    cases e : (vs ++ cvs)[i]? with
    | none => rw [e] at h2; cases h2
    | some a => rw [e] at h2; cases h2; rfl
   by_cases hi : i < ps.length
   ·rw [List.getElem?_append_left hi] at h1
    rw [List.getElem?_append_left (by lia)] at ha
    obtain ⟨u, hu, rv⟩ := r.get ha
    exact ⟨u, rv, .inl ⟨S.par y (List.mem_of_getElem? h1), look_zip (S.nd.sublist (List.sublist_append_left _ _)) h1 hu⟩⟩
   ·rw [List.getElem?_append_right (by lia)] at h1
    rw [List.getElem?_append_right (by lia), hl] at ha
    obtain ⟨c, u, e1, ⟨o, e2, e3⟩, rv⟩ := cells _ y v h1 ha
    exact ⟨u, rv, .inr ⟨.inr (S.fr y (List.mem_of_getElem? h1)), c, e1, o, kp _ _ (e0.bs c o e2).1, e3⟩⟩
  ·obtain ⟨v, o, e1, e2⟩ := allc y c h
   exact ⟨v, o, kp _ _ (e0.bs c o e1).1, e2⟩
  ·obtain ⟨v, o, e1, e2⟩ := allc y c h
   exact (e0.bs c o e1).2
  ·show _ = (ps ++ fv).length
   rw [List.length_map, List.length_append, List.length_append, hl, hcv]
 refine wpAny_mono (ht [] _ ((vs ++ cvs).map some) H _ I hq) (fun u s' hs => ?_) fun e s' hs => hs
 obtain ⟨v, H', J, rv, q⟩ := hs
 exact ⟨v, H', J.os, J.bare, J.base, J.hok, rv, q⟩
end L2
namespace L2
open PySem PySem.Spec PyProof.Rows
section
variable {X : Cx} {pins : List (Addr × Obj)} {σ : St} {H : Hp} {s : Shared}
noncomputable def wideB (X : Cx) (s : Shared) (H : Hp) : Heap := PySem.W.hideAll (hidT s.heap H) (frs X.stack)
theorem wideB_of {b : Addr} {o : Obj} (e : (wideB X s H).get? b = some o) : s.heap.get? b = some o /\ H b = none := of_hidT (PySem.W.of_hideAll _ e)
theorem wideB_get {b : Addr} {o : Obj} (e : s.heap.get? b = some o) (n : H b = none) (f : b ∉ frs X.stack) : (wideB X s H).get? b = some o := PySem.W.hideAll_get _ (hidT_get e n) f
theorem Inv.wide (I : Inv X pins σ H s) {b : Addr} {o : Obj} (e : X.base.get? b = some o) : (wideB X s H).get? b = some o :=
 wideB_get (I.bs b o e).1 (I.bs b o e).2 fun z => by rw [(I.stack.mem z).1] at e; cases e
theorem Ns.widen {h h' : Heap} {a : Addr} {m : Str -> Option Value} (k : ∀ b o, h.get? b = some o -> h'.get? b = some o) (n : h.Ns a m) : h'.Ns a m := let ⟨o, es, ep, e, r⟩ := n; ⟨o, es, ep, k _ _ e, r⟩
theorem Mod.widen {K : PySem.W.Frag} {mg : Str -> Option Value} {h h' : Heap} (m : Mod K mg h) (k : ∀ b o, h.get? b = some o -> h'.get? b = some o) : Mod K mg h' :=
 ⟨m.kin.keeps k, Ns.widen k m.glob, let ⟨mb, h1, h2⟩ := m.blt; ⟨mb, Ns.widen k h1, h2⟩, m.nolimit.keeps k⟩
theorem funs_wide {h base base' : Heap} : ∀ {l : List Env}, h.FunFrames base l -> (∀ b ∈ frs l, base'.get? b = none) -> h.FunFrames base' l
 | [], _, _ => trivial
 | env :: l, f, n => by
   obtain ⟨h1, ⟨L, o, e1, e2, e3⟩, h3⟩ := f
   have hL : L ∈ frs (env :: l) := by unfold frs; rw [List.filterMap_cons, e1]; exact List.mem_cons_self
   refine ⟨h1, ⟨L, o, e1, n L hL, e3⟩, funs_wide h3 fun b hb => n b ?_⟩
   unfold frs at hb ⊢
   rw [List.filterMap_cons, e1]
   exact List.mem_cons_of_mem _ hb
theorem Inv.env2 (I : Inv X pins σ H s) : Env0 X.prog X.w X.K X.mg (wideB X s H) X.A X.stack s H :=
 ⟨I.ok.frames, I.ok.mod.widen fun _ _ e => I.wide e, fun _ _ e => wideB_of e, by unfold wideB; rw [PySem.W.hideAll_size, hidT_size]; exact Nat.le_refl _, funs_wide I.stack fun _ hb => PySem.W.hideAll_none _ hb, I.stkFree, I.hok, I.bare⟩
end
end L2
namespace L2
open PySem PySem.Spec PyProof.Rows
section
variable {X : Cx} {pins : List (Addr × Obj)} {σ : St} {H : Hp} {s : Shared}
theorem mk_lam {params : Arguments} {body : Expr} {scope : Scope} {pos : Pos} {c P : Addr} {q : Str} {Q : Value -> Shared -> Prop} {E : Value -> Shared -> Prop} (I : Inv X pins σ H s) (hd : defaultsOf params X.env = ([], []))
  (hcl : ∀ y ∈ scope.names, y.2 = .free -> ∃ c, X.env.cells.lookup y.1 = some c) (hcode : X.env.code = .ref c) (hH : PySem.W.CodeHd s.heap c P) (hP : H P = some (.lam pos q)) (hq : X.env.qual ++ Str.ofString "<lambda>" = q) (hb : s.heap.BuiltinsAt X.mg P) (hPg : mainGlobals ≠ P)
  (h : ∀ (cl : List (Str × Addr)) (f c' : Addr) (ctv : Value) (s' : Shared) (H' : Hp), (∀ n c, cl.lookup n = some c -> X.env.cells.lookup n = some c) -> (∀ n, (n, NameKind.free) ∈ scope.names -> ∃ c, cl.lookup n = some c) -> Inv X pins σ H' s' -> Same H H' -> H' c' = some (.code q) -> H' f = none -> f ∉ frs X.stack ->
   s'.heap.get? f = some (PySem.W.kla_obj (Str.ofString "<lambda>") q params body scope cl ((X.mg (Str.ofString "__name__")).getD .none) c' ctv) -> Q (.ref f) s') :
  wpAny (model X.prog X.w) X.A (eval (.Lambda params body scope pos) X.env) Q E s := by
 subst hq
 refine PySem.W.kla_eval hd ?_
 obtain ⟨cl, e1, h1, h2⟩ := closure_of hcl
 obtain ⟨ps, hps, ht, hc⟩ := (show ObjOk X.prog X.w H s.heap P (.lam pos _) from I.hok P _ hP)
 have hns : s.heap.Ns mainGlobals X.mg := Ns.widen I.bk I.ok.mod.glob
 have hfr : ∀ f : Addr, s.heap.objs.size <= f -> f ∉ frs X.stack := fun f hf z => by
  obtain ⟨_, o, e, _⟩ := I.stack.mem z
  exact Nat.lt_irrefl _ (Nat.lt_of_lt_of_le (Heap.lt_size e) hf)
 rcases hc with hn | ⟨c', hc', hcc⟩
 ·refine PySem.W.kla_makeFunction e1 I.ok.glob hns hcode hH hps ht hn hPg hb fun c' ctv h' tk ext hge hlt hrec htab => ?_
  have hcn : H c' = none := I.hok.fresh hge
  have hPc : P ≠ c' := fun z => by rw [z, hcn] at hP; cases hP
  have un : Un X.fs [] H (upd H c' (.code (X.env.qual ++ Str.ofString "<lambda>"))) s.heap h' := by
   have kp : ∀ b o, s.heap.get? b = some o -> H b = none -> h'.get? b = some o := fun b o e n => ext b o (fun z => by rw [z, hP] at n; cases n) e
   refine ⟨fun b o e n _ _ => kp b o e n, fun b o e n _ _ => ⟨o.slots, kp b o e n⟩, fun b o e n _ => ?_, fun b o e _ => ?_, fun b xs e => ?_, fun b o u e => ?_, fun b ts e => ⟨#[], ?_⟩⟩
   ·rw [upd_ne (Nat.ne_of_lt (Nat.lt_of_lt_of_le (Heap.lt_size e) hge))]; exact n
   ·by_cases z : b = P
    ·rw [z]; exact ⟨_, htab⟩
    ·exact ⟨o, ext b o z e⟩
   ·rw [upd_ne (ne_of_none e hcn)]; exact e
   ·rw [upd_ne (ne_of_none e hcn)]; exact e
   ·rw [upd_ne (ne_of_none e hcn), e]; simp
  have ok : HOk X.prog X.w (upd H c' (.code (X.env.qual ++ Str.ofString "<lambda>"))) h' := fun a o e => by
   by_cases ha : a = c'
   ·subst ha; rw [upd_same] at e; cases e; exact hrec
   ·rw [upd_ne ha] at e
    by_cases hb' : a = P
    ·subst hb'
     rw [hP] at e; cases e
     exact ⟨_, htab, by rw [Array.toList_append]; exact TriplesOk_snoc _ _ _ _ ht, .inr ⟨c', by rw [Array.toList_append]; exact codeAmong_snoc _ ht hn, upd_same⟩⟩
    ·refine (I.hok a o e).stay (fun b u hbb q => ext b u ?_ q) (fun b q => by rw [upd_ne (ne_of_none q hcn)]; exact q) fun b xs q => q.new hcn
     rcases hbb with z | z
     ·rw [z]; exact hb'
     ·intro y; rw [y, hP] at z; cases z
  have I1 := I.un (t' := tk) un ok
  have hsz : s.heap.objs.size <= h'.objs.size := Nat.le_of_lt (Nat.lt_of_le_of_lt hge hlt)
  have I2 : Inv X pins σ (upd H c' (.code (X.env.qual ++ Str.ofString "<lambda>"))) { s with heap := h'.push (PySem.W.kla_obj (Str.ofString "<lambda>") (X.env.qual ++ Str.ofString "<lambda>") params body scope cl ((X.mg (Str.ofString "__name__")).getD .none) c' ctv), toks := tk } :=
   I1.kept (t' := tk) fun b o e => Heap.get?_push_of_some _ e
  exact h cl h'.objs.size c' ctv _ _ h1 h2 I2 (fun b o e => by rw [upd_ne (ne_of_none e hcn)]; exact e) upd_same (ok.fresh (Nat.le_refl _)) (hfr _ hsz) (Heap.get?_push_size _ rfl)
 ·refine PySem.W.kla_makeFunctionHit e1 I.ok.glob hns hcode hH hps ht hc' hb fun ctv h' tk kp hsz => ?_
  have I2 : Inv X pins σ H { s with heap := h'.push (PySem.W.kla_obj (Str.ofString "<lambda>") (X.env.qual ++ Str.ofString "<lambda>") params body scope cl ((X.mg (Str.ofString "__name__")).getD .none) c' ctv), toks := tk } :=
   I.kept (t' := tk) fun b o e => Heap.get?_push_of_some _ (kp b o e)
  exact h cl h'.objs.size c' ctv _ _ h1 h2 I2 (Same.refl H) hcc (I.hok.fresh hsz) (hfr _ hsz) (Heap.get?_push_size _ rfl)
end
end L2
namespace L2
open PySem PySem.Spec PyProof.Rows
structure Ca where
 c : Addr
 a : Addr
 kds : List (D × D)
noncomputable def codeF (f : Addr) (c : Ca) (q : Str) : D := .dict [(.list [], .tuple [.int (f : Nat), .int (c.c : Nat), .int (c.a : Nat), .str q, .dict c.kds])]
noncomputable def CaOk (K : PySem.W.Frag) (c : Ca) (q : Str) (H : Hp) : Prop := H c.c = some (.code q) /\ HD K H (.ref c.a) (.dict ((.list [], .bool true) :: c.kds))
noncomputable def spV (K : PySem.W.Frag) (c : Ca) (q : Str) (n : Nat) (G : List D -> Option D) : Sp := fun vs H Q _ => vs.length = n /\ ∃ A ds d, Ls A H /\ CaOk K c q (wo H A) /\ HDs K (wo H A) vs ds /\ G ds = some d /\ ∀ v H', Same H H' -> HD K (wo H' A) v d -> Q v H'
structure Clo (P : Program) (w : World) (K : PySem.W.Frag) (mg : Str -> Option Value) (base : Heap) (k : Nat) (f : Addr) (c : Ca) (q : Str) (n : Nat) (G : List D -> Option D) : Prop where
 fn : PySem.W.FnAt f base
 ok : ∃ fd ps, FnOk P w K mg base CX0 k f fd ps (spV K c q n G) /\ Binds K fd ps []
section
variable {X : Cx} {O : List Nat} {i k kk n : Nat} {f : Addr} {c : Ca} {q x : Str} {e : Expr} {es : List Expr} {p pos : Pos} {t : TA} {sp : Sp} {fd : FuncData} {ps : List Str} {G : List D -> Option D} {gr : DS -> Option (List D)}
noncomputable def tCallV (i : Nat) (f : Addr) (sp : Sp) (t : TA) : TE := fun σ H Q => σ[i]? = some (some (.ref f)) /\ t σ H fun vs H1 => sp (vs ++ []) H1 Q E0
theorem pe_callV (F : FnOk X.prog X.w X.K X.mg X.base CX0 k f fd ps sp) (hf : PySem.W.FnAt f X.base) (hr : Room k X.A) (hb : Binds X.K fd ps []) (ha : PA X (e :: es) t) (hN : X.N[i]? = some x) (hv : Vis X.env.scope x) (hd : (x == ("__debug__" : Str)) = false) (hcd : (x == ("__classdict__" : Str)) = false)
  (he : starEach (e :: es) X.env = (false, eval e X.env) :: starEach es X.env) (hpl : (backTo pos (starEach es X.env)).any (·.1) = false) : PE X (.Call (.Name x p) (e :: es) [] pos) (tCallV i f sp t) := by
 intro pins s σ H Q I h
 obtain ⟨h1, h2⟩ := h
 have fnAt : ∀ {s : Shared} {H : Hp} {σ : St}, Inv X pins σ H s -> PySem.W.FnAt f s.heap := fun {s H σ} I => let ⟨oc, od, fd, sl, e⟩ := hf; ⟨oc, od, fd, sl, I.bk _ _ e⟩
 refine wpAny_Call_Name_kw (thn5 (pe_var hN hv hd hcd pins s σ H (fun v H' => v = .ref f /\ H' = H) I ⟨_, h1, rfl, rfl⟩) fun u s1 v H1 I1 r q9 => ?_)
 obtain ⟨e1, e2⟩ := q9
 subst e1 e2
 cases (show u = Value.ref f from r)
 refine PySem.W.callWith_F (fnAt I1) (thn5 (ha pos pins s1 σ H1 _ I1 h2) fun us s2 vs H2 I2 r2 q2 => ⟨fnAt I2, ?_⟩) he hpl
 exact run_fn F hr hb .nil pass0 I2 r2 q2
noncomputable def gCallV (f : Addr) (c : Ca) (q : Str) (G : List D -> Option D) (n i : Nat) (g : DS -> Option (List D)) : DS -> Option D := fun δ => open Classical in if δ[i]? = some (some (codeF f c q)) then (g δ).bind fun ds => if ds.length = n then G ds else none else none
set_option tactic.hygienic true in
theorem pd_callV (C : Clo X.prog X.w X.K X.mg X.base k f c q n G) (hr : Room kk X.A) (hk : k <= kk) (ha : PA X (e :: es) (tAs X.K O gr)) (hN : X.N[i]? = some x := by rfl) (hv : visB (X.env.scope.names.lookup x) = true := by rfl) (hd : (x == ("__debug__" : Str)) = false := by decide) (hcd : (x == ("__classdict__" : Str)) = false := by decide)
  (he : starEach (e :: es) X.env = (false, eval e X.env) :: starEach es X.env := by rfl) (hpl : (backTo pos (starEach es X.env)).any (·.1) = false := by rfl) (hi : i ∉ O := by decide) : PE X (.Call (.Name x p) (e :: es) [] pos) (tE X.K O (gCallV f c q G n i gr)) := by
 obtain ⟨fd, ps, F, hb⟩ := C.ok
 refine (pe_callV F C.fn (hr.mono hk) hb ha hN (vis_of hv) hd hcd he hpl).mono fun σ H Q hh => hh.e fun U A0 δ d R ed q' => ?_
 unfold gCallV at ed
 split at ed
 ·rename_i hs
  obtain ⟨ds, e1, e2⟩ := bind1 ed
  split at e2
  ·rename_i hn
   obtain ⟨v, ev, hv'⟩ := R.fz i _ hi hs
   have key : v = .ref f /\ CaOk X.K c q (wo H (U ++ A0)) := by
    unfold codeF at hv'
    obtain ⟨cc, ca, ck⟩ := c
    cases hv' with
    | fn hc hq k h => exact ⟨by simpa using rfl, hc, .fz hq k h⟩
    | @dct a kvs kds h1 kk h3 =>
      exfalso
      cases kvs with
      | nil => cases kk
      | cons p r => simp at kk
   refine ⟨by rw [ev, key.1], U, A0, δ, ds, R, e1, fun vs H' s h => ?_⟩
   show spV X.K c q n G (vs ++ []) H' Q E0
   rw [List.append_nil]
   exact ⟨by rw [h.len]; exact hn, U ++ A0, ds, d, (R.same s).al, ⟨wo_mono s _ _ key.2.1, key.2.2.same (wo_mono s)⟩, h, e2, fun v H2 s2 h2 => q' v H2 (s.trans s2) h2⟩
  ·cases e2
 ·cases ed
end
end L2
namespace L2
open PySem PySem.Spec PyProof.Rows
noncomputable def BAt (mg : Str -> Option Value) (h : Heap) : Prop := ∃ bm ob, mg (Str.ofString "__builtins__") = some (.ref bm) /\ bm ≠ builtinsNs /\ h.get? bm = some ob /\ ob.cls = .type "module" /\ ob.dict = some builtinsNs /\ ob.data = .plain
noncomputable def fzD (kds : List (D × D)) : D := .dict ((.list [], .bool true) :: kds)
noncomputable def gLamD (gb : DS -> Option D) (kds : List (D × D)) : List D -> Option D := fun ds => gb ((ds ++ [fzD kds]).map some)
noncomputable def allF (g : Addr -> Addr -> Addr -> Option D) : Option D := open Classical in if h : ∃ d, ∀ f c a, g f c a = some d then some h.choose else none
set_option tactic.hygienic true in
theorem allF_get {g : Addr -> Addr -> Addr -> Option D} {d : D} (h : allF g = some d) (f c a : Addr) : g f c a = some d := by
 unfold allF at h
 split at h
 ·rename_i q
  cases h
  exact q.choose_spec f c a
 ·cases h
theorem allF_of {g : Addr -> Addr -> Addr -> Option D} {d : D} (h : ∀ f c a, g f c a = some d) : allF g = some d := by
 unfold allF
 rw [dif_pos ⟨d, h⟩]
 have := (⟨d, h⟩ : ∃ d, ∀ f c a, g f c a = some d).choose_spec 0 0 0
 rw [h 0 0 0] at this
 exact this.symm
noncomputable abbrev GPT := Addr -> Ca -> Str -> (List D -> Option D) -> List D -> Option D
noncomputable def gPWd (GP : GPT) (q : Str) (i : Nat) (gb : DS -> Option D) : DS -> Option D := fun δ => (δ[i]?).bind fun o => o.bind fun d => match d with
 | .dict kds => allF fun f c a => GP f ⟨c, a, kds⟩ q (gLamD gb kds) [codeF f ⟨c, a, kds⟩ q]
 | _ => none
set_option tactic.hygienic true in
theorem gPWd_get {GP : GPT} {q : Str} {i : Nat} {gb : DS -> Option D} {δ : DS} {d : D} (h : gPWd GP q i gb δ = some d) : ∃ kds, δ[i]? = some (some (.dict kds)) /\ ∀ f c a, GP f ⟨c, a, kds⟩ q (gLamD gb kds) [codeF f ⟨c, a, kds⟩ q] = some d := by
 unfold gPWd at h
 obtain ⟨o, e1, h⟩ := bind1 h
 obtain ⟨x, e2, h⟩ := bind1 h
 split at h
 ·rename_i kds
  exact ⟨kds, by rw [e1, e2], allF_get h⟩
 ·cases h
theorem Rel.ofData {K : PySem.W.Frag} {A : List Addr} {H : Hp} {vs : List V} {ds : List D} (al : Ls A H) (h : HDs K (wo H A) vs ds) : Rel K [] [] A (vs.map some) (ds.map some) H where
 len := by rw [List.length_map, List.length_map, h.len]
 fz := fun i d _ e => by
  rw [List.getElem?_map] at e
  cases q : ds[i]? with
  | none => rw [q] at e; cases e
  | some d' =>
    rw [q] at e; cases e
    obtain ⟨v, e1, e2⟩ := h.get q
    exact ⟨v, by rw [List.getElem?_map, e1]; rfl, e2⟩
 ow := fun i d hi => by simp at hi
 inj := fun i j d e l hi => by simp at hi
 al := al
structure LamS (ps fv : List Str) (sc : Scope) : Prop where
 kind : sc.kind = .function
 co : sc.isCoroutine = false
 gen : sc.isGenerator = false
 nocell : ∀ y ∈ sc.names, y.2 ≠ .cell
 nd : (ps ++ fv).Nodup
 par : ∀ x ∈ ps, sc.names.lookup x = some .local
 fr : ∀ x ∈ fv, sc.names.lookup x = some .free
section
variable {X : Cx} {pins : List (Addr × Obj)} {σ : St} {H : Hp} {s : Shared} {O : List Nat}
theorem clo_mk {k : Nat} {f c' a : Addr} {name qual : Str} {params : Arguments} {body : Expr} {scope : Scope} {cl : List (Str × Addr)} {pm ctv : Value} {ps : List Str} {x : Str} {i : Nat} {kds : List (D × D)} {gb : DS -> Option D} (I : Inv X pins σ H s)
  (hf : s.heap.get? f = some (PySem.W.kla_obj name qual params body scope cl pm c' ctv)) (hn : H f = none) (hfr : f ∉ frs X.stack) (h1 : ∀ n c, cl.lookup n = some c -> X.env.cells.lookup n = some c) (h2 : ∀ n, (n, NameKind.free) ∈ scope.names -> ∃ c, cl.lookup n = some c)
  (hfn : ∀ x, X.fn x = true) (S : LamS ps [x] scope) (hN : X.N[i]? = some x) (hvis : X.env.scope.names.lookup x = some .cell) (hcap : σ[i]? = some (some (.ref a)))
  (hb : ∀ us : List Value, us.length = ps.length -> bindArgs (PySem.W.kla_fn name qual params body scope cl pm (.ref c') ctv) ⟨us, []⟩ = pure (ps.zip us))
  (hbody : ∀ (base : Heap) (A : Around) (outer : List Env) (s : Shared) (H : Hp) (E : XK), Room k (A.deeper (PySem.W.envX qual scope s.heap.objs.size f (.ref c') cl)) -> PE (cxCl CX0 X.prog X.w X.K X.mg base (ps ++ [x]) qual scope f (.ref c') cl A outer s H E) body (tE X.K [] gb)) :
  Clo X.prog X.w X.K X.mg (wideB X s H) (k + 1) f ⟨c', a, kds⟩ qual ps.length (gLamD gb kds) := by
 have nofr : ∀ {x : Str} {c : Addr}, X.env.cells.lookup x = some c -> c ∉ frs X.stack := fun {x c} e z => by
  rcases List.mem_cons.mp (I.stkSub c z) with y | y
  ·exact I.cne x c e y
  ·obtain ⟨_, o, ho, _⟩ := I.ok.funs.mem y
   exact Nat.lt_irrefl _ (Nat.lt_of_lt_of_le (Heap.lt_size ho) (I.ok.cab x c (hfn x) e))
 have cellB : ∀ {x : Str} {c : Addr} {v : Option Value}, X.env.cells.lookup x = some c -> s.heap.IsCell c v -> (wideB X s H).IsCell c v := fun {x c v} e h => by
  obtain ⟨o, e1, d⟩ := h
  exact ⟨o, wideB_get e1 (I.freeC x c e) (nofr e), d⟩
 refine ⟨⟨_, _, _, _, wideB_get hf hn hfr⟩, _, ps, fn_cl (cvs := [V.ref a]) (wideB_get hf hn hfr) ⟨S.kind, S.co, S.gen, S.nocell, S.nd, S.par, S.fr, fun x hx => h2 x (PySem.mem_of_lookup hx), fun x y c a b => I.ok.inj x y c (h1 _ _ a) (h1 _ _ b)⟩ rfl (fun j y v e1 e2 => ?_) (fun x c e => ?_) (fun vs H Q E q => q.1) (fun vs H Q E q => ?_) fun A outer s' H' vs Q E hr hsp => ?_, Binds.all hb⟩
 ·cases j with
  | succ j => cases j <;> cases e1
  | zero =>
    cases e1; cases e2
    obtain ⟨c, hc⟩ := h2 x (PySem.mem_of_lookup (S.fr x List.mem_cons_self))
    obtain ⟨m, _, hl⟩ := I.loc
    obtain ⟨u, ru, lk⟩ := hl _ x _ hN hcap (.inr (.inl hvis))
    refine ⟨c, u, hc, ?_, ru⟩
    rcases lk with ⟨z, _⟩ | ⟨_, c0, e0, hcell⟩
    ·unfold Env.kindOf at z
     rw [hvis] at z; cases z
    ·rw [h1 x c hc] at e0; cases e0
     exact cellB (h1 x c hc) hcell
 ·obtain ⟨v, hv⟩ := I.cell x c (h1 x c e)
  exact ⟨v, cellB (h1 x c e) hv⟩
 ·obtain ⟨_, A', ds, d, al, hc, _⟩ := q
  exact wo_same _ _ hc.1
 ·obtain ⟨hl, A', ds, d, al, hc, hd, e, q⟩ := hsp
  exact ⟨_, hbody _ A outer s' H' E hr, [], A', (ds ++ [fzD kds]).map some, d, Rel.ofData al (hd.app (.cons hc.2 .nil)), e, q⟩
end
section
variable {X : Cx} {O : List Nat}
end
noncomputable def DfC (K : PySem.W.Frag) (mg : Str -> Option Value) (x : Str) (st : Stmt) (ps : List Str) (c : Addr) : Prop := ∃ f fd, Fun K x x st f fd /\ fd.code = .ref c /\ mg x = some (.ref f) /\ Binds K fd ps []
theorem lam_in {ts : List Addr} {p : Addr} {y : Pos} {q : Str} (h : (lamTab.all fun t => ts.contains t.1) = true) (m : (p, y, q) ∈ lamTab) : p ∈ ts := by
 have := List.all_eq_true.mp h _ m
 simpa using this
end L2
namespace L2
open PySem PySem.Spec PyProof.Rows
theorem lk_mem2 {β : Type} : ∀ {l : List (Addr × β)} {p : Addr} {x : β}, l.lookup p = some x -> (p, x) ∈ l
 | [], _, _, h => by cases h
 | (q, y) :: l, p, x, h => by
   rw [List.lookup_cons] at h
   by_cases e : p = q
   ·subst e
    rw [beq_self_eq_true] at h
    cases h
    exact List.mem_cons_self
   ·rw [show (p == q) = false by simpa using e] at h
    exact List.mem_cons_of_mem _ (lk_mem2 h)
structure LamOk (K : PySem.W.Frag) : Prop where
 one : ∀ p y q, (p, y, q) ∈ lamTab -> lamTab.lookup p = some (y, q)
 out : ∀ p y q, (p, y, q) ∈ lamTab -> K.lookup p = none /\ ∃ c, PySem.W.codeHdIn K c p = true
noncomputable def Hl : Hp := fun b => (lamTab.lookup b).map fun t => HO.lam t.1 t.2
theorem Hl_some {b : Addr} {o : HO} (h : Hl b = some o) : ∃ y q, o = .lam y q /\ (b, y, q) ∈ lamTab := by
 unfold Hl at h
 cases e : lamTab.lookup b with
 | none => rw [e] at h; cases h
 | some t => rw [e] at h; cases h; exact ⟨t.1, t.2, rfl, lk_mem2 e⟩
theorem law_callL {P : Program} {w : World} {K : PySem.W.Frag} {mg mb : Str -> Option Value} {k : Nat} {fa a : Addr} {fd : FuncData} {x : Str} {sp : Sp} {s₁ : Shared} {vs : List Value} {ns : List Int} (C : LamOk K)
  (KX : K.In s₁.heap) (hT : ∀ p y q, (p, y, q) ∈ lamTab -> s₁.heap.get? p = some (PySem.W.tabObj #[])) (hns : s₁.heap.Ns mainGlobals mg) (hb : s₁.heap.Ns builtinsNs mb) (hbb : ∀ x : Str, x ≠ "__name__" -> mb x = bootBuiltins x) (hlim : s₁.heap.NoLimit) (hbm : BAt mg s₁.heap) (hg : s₁.gens = #[])
  (ha : s₁.heap.get? a = some { cls := .type "list", data := .seq vs.toArray }) (hi : IntsAre vs ns) (hl : ns.length <= sizeLine) (hr : Room k callerA)
  (F : ∀ base : Heap, K.In base -> base.Ns mainGlobals mg -> BAt mg base -> FnOk P w K mg base CX0 k fa fd [x] sp) (hbind : ∀ (s : Shared) (u : Value), BindsTo s fd ⟨[u], []⟩ [(x, u)])
  (hsp : ∀ H : Hp, LsD K H a (ns.map V.int) -> (∀ p y q, (p, y, q) ∈ lamTab -> H p = some (.lam y q)) -> sp [.ref a] H (fun v H' => v = .bl true /\ Same H H') fun _ _ _ => False) :
  codeAny (model P w) callerA (.call (.ref fa) ⟨[.ref a], []⟩) (fun r s' => r = .ok (.ret (.bool true)) /\ OldK s₁.heap s'.heap /\ s'.os = s₁.os /\ AllBare s'.gens) s₁ := by
 have rv := vals_ints hi
 have lenV := hi.length
 have tab : ∀ p y q, (p, y, q) ∈ lamTab -> isCodeTable s₁.heap p := fun p y q m => by
  obtain ⟨_, c, hc⟩ := C.out p y q m
  obtain ⟨o, vs, _, _, _, _, _, _, _, h1, h2, h3, h4, _⟩ := PySem.W.codeHd_of_K KX hc
  exact ⟨c, o, vs, h1, h2, h3, h4⟩
 have core : ∀ H : Hp, (∀ b o, H b = some o -> (∃ ob u, o = .frz ob u /\ ∀ es ep, ob.data ≠ .dict es ep /\ ob.data ≠ .plain) \/ ∃ y q, o = .lam y q /\ (b, y, q) ∈ lamTab) -> LsD K H a (ns.map V.int) -> HOk P w H s₁.heap -> (∀ p y q, (p, y, q) ∈ lamTab -> H p = some (.lam y q)) -> (∀ b, H b ≠ none -> K.lookup b = none) ->
   codeAny (model P w) callerA (.call (.ref fa) ⟨[.ref a], []⟩) (fun r s' => r = .ok (.ret (.bool true)) /\ OldK s₁.heap s'.heap /\ s'.os = s₁.os /\ AllBare s'.gens) s₁ := by
  intro H hO hS hok hL hK
  have dat : ∀ {b : Addr} {o : Obj} {u : HO}, H b = some u -> s₁.heap.get? b = some o -> (∀ es ep, o.data ≠ .dict es ep) /\ o.data ≠ .plain := fun {b o u} e h => by
   rcases hO b u e with ⟨ob, z, rfl, hd⟩ | ⟨y, q, rfl, m⟩
   ·obtain ⟨e1, _⟩ := hok b _ e
    rw [h] at e1; cases e1
    exact ⟨fun es ep => (hd es ep).1, (hd #[] 0).2⟩
   ·rw [hT b y q m] at h; cases h
    exact ⟨fun es ep z => (by cases z), fun z => (by cases z)⟩
  have noA : ∀ {b : Addr} {o : Obj} {es : Array DictEntry} {ep : Nat}, s₁.heap.get? b = some o -> o.data = .dict es ep -> H b = none := fun {b o es ep} e d => by
   cases q : H b with
   | none => rfl
   | some u => exact absurd d ((dat q e).1 es ep)
  have nsK : ∀ {b : Addr} {m : Str -> Option Value}, s₁.heap.Ns b m -> (hidT s₁.heap H).Ns b m := fun {b m} ⟨o, es, ep, e, d, r⟩ => ⟨o, es, ep, hidT_get e (noA e d), d, r⟩
  have hKb : K.In (hidT s₁.heap H) := fun b o e => by
   refine hidT_get (KX b o e) ?_
   cases q : H b with
   | none => rfl
   | some u => rw [hK b (by rw [q]; simp)] at e; cases e
  have hBb : BAt mg (hidT s₁.heap H) := by
   obtain ⟨bm, ob, b1, b2, b3, b4, b5, b6⟩ := hbm
   refine ⟨bm, ob, b1, b2, hidT_get b3 ?_, b4, b5, b6⟩
   cases q : H bm with
   | none => rfl
   | some u => exact absurd b6 (dat q b3).2
  have hM : Mod K mg (hidT s₁.heap H) := ⟨hKb, nsK hns, ⟨mb, nsK hb, hbb⟩, let ⟨mc, h1, h2⟩ := hlim; ⟨mc, nsK h1, h2⟩⟩
  have e0 : Env0 P w K mg (hidT s₁.heap H) callerA [] s₁ H := ⟨rfl, hM, fun b o e => of_hidT e, Nat.le_of_eq (hidT_size _ _), trivial, fun b hb => absurd (show b ∈ ([] : List Addr) from hb) (by simp), hok, .of_eq hg⟩
  refine codeAny_mono ((F _ hKb (nsK hns) hBb).run callerA [] s₁ H ⟨[.ref a], []⟩ [.ref a] [.ref a] _ _ hr e0 (hbind s₁ (.ref a)) (.cons rfl .nil) (hsp H hS hL)) fun r s' h => ?_
  cases r with
  | error e => exact h.elim
  | ok fl =>
    cases fl with
    | next => exact False.elim h
    | brk => exact False.elim h
    | cont => exact False.elim h
    | ret u =>
      obtain ⟨v, H', os, bare, un, hok', r', rfl, sm⟩ := h
      obtain rfl : u = Value.bool true := r'
      have was : ∀ b o, s₁.heap.get? b = some o -> asItWas s₁.heap s'.heap b o := fun b o e => by
       cases q : H b with
       | none => exact .inl (un.keep b o e q (by intro z; exact absurd (show b ∈ ([] : List Addr) from z) (by simp)) (by simp))
       | some u =>
         rcases hO b u q with ⟨ob, z, rfl, _⟩ | ⟨y, q', rfl, m⟩
         ·obtain ⟨e1, _⟩ := hok b _ q
          obtain ⟨e2, _⟩ := hok' b _ (un.frzs b ob _ q)
          rw [e] at e1; cases e1
          exact .inl e2
         ·rw [hT b y q' m] at e; cases e
          obtain ⟨ps, e2, _⟩ := (show ObjOk P w H' s'.heap b (.lam y q') from hok' b _ (sm _ _ q))
          exact .inr (.inl ⟨tab b y q' m, rfl, #[], ps, rfl, by rw [e2, Array.empty_append]⟩)
      exact ⟨rfl, ⟨was, fun b o e => un.there b o e (by simp)⟩, os, bare⟩
 have hlO : ∀ (H : Hp) b y q, (b, y, q) ∈ lamTab -> ObjOk P w H s₁.heap b (.lam y q) := fun H b y q m => ⟨#[], hT b y q m, trivial, .inl rfl⟩
 have hlH : ∀ p y q, (p, y, q) ∈ lamTab -> Hl p = some (.lam y q) := fun p y q m => by unfold Hl; rw [C.one p y q m]; rfl
 have hna : Hl a = none := by
  cases q : Hl a with
  | none => rfl
  | some o =>
    obtain ⟨y, q', rfl, m⟩ := Hl_some q
    have := hT a y q' m
    rw [ha] at this; cases this
 cases hk : K.lookup a with
 | some o =>
   have e := KX a o hk
   rw [ha] at e
   cases e
   refine core Hl (fun b o z => .inr (Hl_some z)) (.inr ⟨vs, _, hk, by rw [lenV]; exact hl, rv⟩) (fun b u z => ?_) hlH fun b z => ?_
   ·obtain ⟨y, q, rfl, m⟩ := Hl_some z
    exact hlO _ b y q m
   ·cases q : Hl b with
    | none => exact absurd q z
    | some o =>
      obtain ⟨y, q', rfl, m⟩ := Hl_some q
      exact (C.out b y q' m).1
 | none =>
   refine core (fun b => if b = a then some (.frz { cls := .type "list", data := .seq vs.toArray } (.lst (ns.map V.int))) else Hl b) (fun b o z => ?_) (.inl (.inr ⟨{ cls := .type "list", data := .seq vs.toArray }, if_pos rfl⟩)) (fun b u z => ?_) (fun p y q m => ?_) fun b z => ?_
   ·by_cases hb : b = a
    ·have z' := (if_pos hb).symm.trans z
     cases z'
     exact .inl ⟨_, _, rfl, fun es ep => ⟨fun y => (by cases y), fun y => (by cases y)⟩⟩
    ·exact .inr (Hl_some ((if_neg hb).symm.trans z))
   ·by_cases hb : b = a
    ·have z' := (if_pos hb).symm.trans z
     cases z'
     subst hb
     exact ⟨ha, by rw [List.length_map]; exact hl, vs, _, rv, ha⟩
    ·obtain ⟨y, q, rfl, m⟩ := Hl_some ((if_neg hb).symm.trans z)
     exact hlO _ b y q m
   ·have hb : p ≠ a := fun e => by have := hlH p y q m; rw [e, hna] at this; cases this
    exact (if_neg hb).trans (hlH p y q m)
   ·by_cases hb : b = a
    ·subst hb; exact hk
    ·cases q : Hl b with
     | none => exact absurd ((if_neg hb).trans q) z
     | some o =>
       obtain ⟨y, q', rfl, m⟩ := Hl_some q
       exact (C.out b y q' m).1
theorem walk_ofL {l : PySem.W.OpenLaw} {n k : Nat} {q : Program} {loose : List Str} {XP : (Str -> Option Value) -> Heap -> Prop} {YP : World -> Heap -> Prop} {d : DefRec} {K : Params -> PySem.W.Frag} {sp : World -> Sp} {x : Str}
  (hn : l.most = some n) (hn2 : n <= sizeLine) (hdf : d.params.defaults = []) (hr : Room k callerA) (hY : ∀ (w : World) (h : Heap), YP w h -> (K w.params).In h /\ ∀ p y q, (p, y, q) ∈ lamTab -> h.get? p = some (PySem.W.tabObj #[]))
  (F : ∀ (w : World) (mg : Str -> Option Value) (fa : Addr) (h : Heap), (K w.params).In h -> h.Ns mainGlobals mg -> mg d.name = some (.ref fa) -> LamOk (K w.params) /\
   ∃ fd : FuncData, (∀ (s : Shared) (u : Value), BindsTo s fd ⟨[u], []⟩ [(x, u)]) /\ ∀ base : Heap, (K w.params).In base -> base.Ns mainGlobals mg -> BAt mg base -> FnOk l.prog w (K w.params) mg base CX0 k fa fd [x] (sp w))
  (hsp : ∀ (w : World) (H : Hp) (a : Addr) (ns : List Int), ns.length <= n -> LsD (K w.params) H a (ns.map V.int) -> (∀ p y q, (p, y, q) ∈ lamTab -> H p = some (.lam y q)) -> sp w [.ref a] H (fun v H' => v = .bl true /\ Same H H') fun _ _ _ => False) :
  PySem.W.WalkO q loose XP YP l.row.toRowW d [] (fun f vs => PySem.call f vs) := by
 refine Att.attach_call hn hdf fun w s₀ s₁ mg mb fa o pm cd doc a vs ns G Y ho hd hcd hmg hobj hints hlen hg => ?_
 obtain ⟨KX, KT⟩ := hY w _ Y
 obtain ⟨C, fd, hb, hF⟩ := F w mg fa _ KX G.T.g hmg
 exact law_callL C KX KT G.T.g G.T.b G.T.builtins G.T.nolimit G.T.bmain hg hobj hints (Nat.le_trans hlen hn2) hr hF hb (fun H hS hT => hsp w H a ns hlen hS hT)
end L2
namespace L2
open PySem PySem.Spec PyProof.Rows
section
variable {X : Cx} {O : List Nat} {tg e o y : Expr} {ge go : DS -> Option D} {apos cpos : Pos}
end
end L2
namespace L2
open PySem PySem.Spec PySem.W PyProof.Rows
theorem entry_unchain : entryFor table "proto.unchain" = some Builtin.«proto.unchain» := entryFor_of_fast (by kernel_rfl)
section
variable {prog : Program} {w : World} {A : Around} {E : Value -> Shared -> Prop} {s : Shared}
theorem unchain_none {x : Addr} {ox : Obj} {fs : Array Value} {e : Value} {Q : Value -> Shared -> Prop} (ho : s.heap.get? x = some ox) (hd : ox.data = .fields fs) (h2 : fs[2]? = some Value.none) (hQ : Q .none s) :
  wpAny (model prog w) A (runValue (.builtin "proto.unchain" ⟨[e, .ref x, .ref x, .bool false], []⟩)) Q E s := by
 refine wpAny_runValue (codeAny_builtin entry_unchain ?_)
 unfold Builtin.«proto.unchain»
 show wpAny _ _ (field (.ref x) 2 >>= _) _ _ s
 refine wpAny_bind (wpAny_field ho hd h2 ?_)
 exact wpAny_pure hQ
theorem raiseNew_in {α : Type} {a x : Addr} {ox oa : Obj} {fs va : Array Value} {Q : α -> Shared -> Prop} (hh : A.handled = some (.ref x)) (hne : x ≠ a) (ho : s.heap.get? x = some ox) (hd : ox.data = .fields fs) (h2 : fs[2]? = some Value.none)
  (hoa : s.heap.get? a = some oa) (hda : oa.data = .fields va) (hsz : 2 < va.size) (hE : E (.ref a) { s with heap := s.heap.update a (Obj.mapFields (·.setIfInBounds 2 (.ref x))) }) :
  wpAny (model prog w) A (raiseNew (α := α) (.ref a)) Q E s := by
 unfold raiseNew
 refine wpAny_bind (wpAny_handled ?_)
 rw [hh]
 have hb : (Value.ref x != Value.ref a) = true := bne_iff_ne.mpr fun e => hne (Value.ref.inj e)
 show wpAny _ _ (if (Value.ref x != Value.ref a) = true then _ else _) _ _ s
 rw [if_pos hb]
 refine wpAny_bind (wpAny_holding (unchain_none ho hd h2 ?_))
 refine wpAny_bind ?_
 unfold updateField
 refine wpAny_bind (wpAny_load hoa ?_)
 rw [hda]
 dsimp only
 rw [if_pos hsz]
 refine wpAny_update hoa ?_
 exact wpAny_throw hE
theorem next_range_in {it x : Addr} {ox : Obj} {fs : Array Value} {y left step : Int} {Q : Option Value -> Shared -> Prop} (hh : A.handled = some (.ref x)) (ho : s.heap.get? x = some ox) (hd : ox.data = .fields fs) (h2 : fs[2]? = some Value.none)
  (hit : IsRangeIter s.heap it y left step) (hleft : left <= 0) (hQ : ∀ h', Heap.ExtBut it s.heap h' -> Q none { s with heap := h' }) : wpAny (model prog w) A (pyNext (.ref it)) Q E s := by
 have hT : s.TypeIs (.ref it) "range_iterator" := ⟨_, hit, rfl⟩
 unfold pyNext
 refine wpAny_bind (wpAny_attempt (wpAny_callSpecial?_slot (name := Str.ofString "__next__") hT F.slot_range_iterator_next
  (wpAny_call_entry F.slot_range_iterator_next hT F.entry_range_iterator_next ?_ (F.args_range_iterator_next_1 _))))
 show wpAny _ _ (field (.ref it) 0 >>= _) _ _ s
 refine wpAny_bind (wpAny_field hit rfl (x := rawInt y) rfl ?_)
 show wpAny _ _ (field (.ref it) 1 >>= _) _ _ s
 refine wpAny_bind (wpAny_field hit rfl (x := rawInt left) rfl ?_)
 show wpAny _ _ (field (.ref it) 2 >>= _) _ _ s
 refine wpAny_bind (wpAny_field hit rfl (x := rawInt step) rfl ?_)
 show wpAny _ _ (if left <= 0 then _ else _) _ _ s
 rw [if_pos hleft]
 refine wpAny_bind (wpAny_rule ?_)
 refine wpAny_bind ?_
 show wpAny _ _ (newExc (.type "StopIteration") [] >>= _) _ _ _
 refine wpAny_bind ?_
 simp only [newExc, newTuple]
 refine wpAny_bind (wpAny_newObj_type ?_ (by size_fits))
 refine wpAny_bind (m := firstArgMember _ _) (wpAny_of_eq (a := Value.none) (by first | rfl | (simp only [firstArgMember]; rfl)) ?_)
 refine wpAny_newObj_type ?_ (by size_fits)
 have hx : x < s.heap.objs.size := Heap.lt_size ho
 refine raiseNew_in (x := x) hh ?_ (Heap.get?_push_of_some _ (Heap.get?_push_of_some _ ho)) hd h2 (Heap.get?_push_size _ rfl) rfl (by rw [Array.size_append]; exact Nat.lt_of_lt_of_le (show 2 < 6 by decide) (Nat.le_add_right _ _)) ?_
 ·intro e
  rw [e] at hx
  have : s.heap.objs.size <= (s.heap.push { cls := .type "tuple", data := .seq [].toArray }).objs.size := by simp [Heap.push]
  exact absurd (Nat.lt_of_lt_of_le hx this) (Nat.lt_irrefl _)
 ·refine wpAny_bind (wpAny_isInstance (T := "StopIteration") (b := true) ⟨_, Heap.get?_update_self _ (Heap.get?_push_size _ rfl) ?_, ?_⟩ isSubtype_stop ?_)
  ·exact Obj.isFreed_of_fields (Obj.data_mapFields rfl _)
  ·exact (Obj.cls_mapFields ..).trans rfl
  ·refine wpAny_pure (hQ _ fun b o hb e => ?_)
   have e2 := Heap.get?_push_of_some { cls := .type "tuple", data := .seq [].toArray } e
   refine (((Heap.SameBut.update ..).2 b ?_).trans (Heap.get?_push_of_some _ e2))
   intro z
   have := Heap.lt_size e2
   rw [z] at this
   exact absurd this (Nat.lt_irrefl _)
end
end L2
namespace L2
open PySem
noncomputable def Nx0 (M : Model) (Γ : Ctx) (p : Pos) (t : Sem Fin) (s : Shared) (e : End) (s' : Shared) : Prop := match t with
 | .pure (.done f) => e = .ret (.ok f) /\ s' = s
 | .pure (.again c) => Runs M (Γ.goto c) p (M.den c) [] s e s'
 | .raise x => e = .ret (.error x) /\ s' = s
 | .rule _ k => Runs M Γ p (k ()) [] s e s'
 | .at p' k => Runs M Γ p' (k ()) [] s e s'
 | .load a _ k => ∃ o, s.heap.get? a = some o /\ Runs M Γ p (k o) [] s e s'
 | .update a _ f k => Runs M Γ p (k ()) [] { s with heap := s.heap.update a f } e s'
 | .loadIfAlive a k => Runs M Γ p (k (s.heap.get? a)) [] s e s'
 | .point _ k => Runs M Γ p (k ()) [] s e s'
 | .alloc o k => Runs M Γ p (k s.heap.objs.size) [] { s with heap := s.heap.push o } e s'
 | .fresh k => Runs M Γ p (k s.toks) [] { s with toks := s.toks + 1 } e s'
 | .ask k => Runs M Γ p (k ⟨M.prog, M.w.params⟩) [] s e s'
 | .choose src n k => Runs M Γ p (k (M.w.draws src (s.drawn.get src) % n)) [] { s with drawn := s.drawn.bump src } e s'
 | .os q _ k => Runs M Γ p (k (Os.step s.os q).2) [] { s with os := (Os.step s.os q).1 } e s'
 | .handled own k => Runs M Γ p (k (if own then Γ.own else Γ.handled)) [] s e s'
 | .genState g k => ∃ st, s.gens[g]? = some st /\ Runs M Γ p (k st.seen) [] s e s'
 | .stack k => Runs M Γ p (k ((Γ.code, p) :: Γ.below)) [] s e s'
 | .thread k => Runs M Γ p (k 0) [] s e s'
 | .newGen c k => Runs M Γ p (k s.gens.size) [] { s with gens := s.gens.push (.fresh c) } e s'
 | .call c h g l k => ∃ e1 s1, Runs M (Γ.enter c h p) p (M.den c) [] s e1 s1 /\ ((∃ r, e1 = .ret r /\ Runs M Γ p (k r) [] s1 e s') \/ ∃ v g₀ l₀ k₀ c₀ p₀ fs, e1 = .susp v g₀ l₀ k₀ c₀ p₀ fs /\ s' = s1 /\ e = .susp v g₀ l₀ k₀ c₀ p₀ (fs ++ [.ret k h g l Γ.code p []]))
 | .yield v g l k => e = .susp v g l k Γ.code p [] /\ s' = s
 | .resume g r _ k => ∃ st, s.gens[g]? = some st /\ ((∃ c, st = .fresh c /\ ((r = .send .none /\ ∃ e1 s1, Runs M (Γ.wake c p) p (M.den c) [] (s.setGen g .running) e1 s1 /\ Runs M Γ p (k e1.result) [] (s1.setGen g e1.genState) e s') \/ (∃ v, r = .send v /\ v ≠ .none /\ Runs M Γ p (k .justStarted) [] s e s') \/ ∃ x, r = .throw x /\ Runs M Γ p (k (.raised x)) [] (s.setGen g .finished) e s')) \/
   (∃ k₀ l₀ c₀ p₀ fs cl, st = .suspended k₀ l₀ c₀ p₀ fs cl /\ ∃ e1 s1, Runs M (Γ.wake c₀ p) p₀ (k₀ r) fs (s.setGen g .running) e1 s1 /\ Runs M Γ p (k e1.result) [] (s1.setGen g e1.genState) e s') \/
   (st = .running /\ Runs M Γ p (k .running) [] s e s') \/ (st = .finished /\ Runs M Γ p (k .finished) [] s e s'))
 | _ => False
noncomputable def NxF (M : Model) (Γ : Ctx) (p : Pos) (t : Sem Fin) (F : Frame) (fs : List Frame) (s : Shared) (e : End) (s' : Shared) : Prop := ∃ e1 s1, Runs M (Γ.over (F :: fs)) p t [] s e1 s1 /\
 ((∃ k h g l c₁ p₁ kp r, F = .ret k h g l c₁ p₁ kp /\ e1 = .ret r /\ Runs M (Γ.goto c₁) p₁ (k r) fs s1 e s') \/ (∃ g k l c₁ p₁ r, F = .gen g k l c₁ p₁ /\ e1 = .ret r /\ Runs M (Γ.goto c₁) p₁ (k (End.ret r).result) fs (s1.setGen g .finished) e s') \/
  ∃ v g₀ l₀ k₀ c₀ p₀ fs₀, e1 = .susp v g₀ l₀ k₀ c₀ p₀ fs₀ /\ ((splitAtGen (F :: fs) = none /\ s' = s1 /\ e = .susp v g₀ l₀ k₀ c₀ p₀ (fs₀ ++ F :: fs)) \/
    ∃ pre g k c₁ p₁ rest, splitAtGen (F :: fs) = some (pre, (g, k, c₁, p₁), rest) /\ Runs M (Γ.goto c₁) p₁ (k (.yielded v)) rest (s1.setGen g (End.susp v g₀ l₀ k₀ c₀ p₀ (fs₀ ++ pre)).genState) e s'))
noncomputable def Nxt (M : Model) (Γ : Ctx) (p : Pos) (t : Sem Fin) (fs : List Frame) (s : Shared) (e : End) (s' : Shared) : Prop := match fs with
 | [] => Nx0 M Γ p t s e s'
 | F :: fs => NxF M Γ p t F fs s e s'
theorem runs_inv {M : Model} {Γ : Ctx} {p : Pos} {t : Sem Fin} {fs : List Frame} {s : Shared} {e : End} {s' : Shared} (h : Runs M Γ p t fs s e s') : Nxt M Γ p t fs s e s' := by
 cases h with
 | done => exact ⟨rfl, rfl⟩
 | raise => exact ⟨rfl, rfl⟩
 | again _ r => exact r
 | rule r => exact r
 | «at» r => exact r
 | load g r => exact ⟨_, g, r⟩
 | update _ r => exact r
 | loadIfAlive r => exact r
 | point r => exact r
 | alloc r => exact r
 | fresh r => exact r
 | ask r => exact r
 | choose _ r => exact r
 | os r => exact r
 | handled r => exact r
 | genState g r => exact ⟨_, g, r⟩
 | stack r => exact r
 | thread r => exact r
 | newGen r => exact r
 | call a b => exact ⟨_, _, a, .inl ⟨_, rfl, b⟩⟩
 | callSusp a => exact ⟨_, _, a, .inr ⟨_, _, _, _, _, _, _, rfl, rfl, rfl⟩⟩
 | yield => exact ⟨rfl, rfl⟩
 | resumeFresh g a _ b => exact ⟨_, g, .inl ⟨_, rfl, .inl ⟨rfl, _, _, a, b⟩⟩⟩
 | resumeSuspended g a _ b => exact ⟨_, g, .inr (.inl ⟨_, _, _, _, _, _, rfl, _, _, a, b⟩)⟩
 | resumeJustStarted g n b => exact ⟨_, g, .inl ⟨_, rfl, .inr (.inl ⟨_, rfl, n, b⟩)⟩⟩
 | resumeThrowFresh g b => exact ⟨_, g, .inl ⟨_, rfl, .inr (.inr ⟨_, rfl, b⟩)⟩⟩
 | resumeRunning g b => exact ⟨_, g, .inr (.inr (.inl ⟨rfl, b⟩))⟩
 | resumeFinished g b => exact ⟨_, g, .inr (.inr (.inr ⟨rfl, b⟩))⟩
 | segRet a b => exact ⟨_, _, a, .inl ⟨_, _, _, _, _, _, _, _, rfl, rfl, b⟩⟩
 | segGen a b => exact ⟨_, _, a, .inr (.inl ⟨_, _, _, _, _, _, rfl, rfl, b⟩)⟩
 | segSuspOut g a => exact ⟨_, _, a, .inr (.inr ⟨_, _, _, _, _, _, _, rfl, .inl ⟨g, rfl, rfl⟩⟩)⟩
 | segSuspGen g a _ b => exact ⟨_, _, a, .inr (.inr ⟨_, _, _, _, _, _, _, rfl, .inr ⟨_, _, _, _, _, _, g, b⟩⟩)⟩
theorem runs_det {M : Model} {Γ : Ctx} {p : Pos} {t : Sem Fin} {fs : List Frame} {s : Shared} {e : End} {s' : Shared} (h : Runs M Γ p t fs s e s') : ∀ {e2 : End} {s2 : Shared}, Runs M Γ p t fs s e2 s2 -> e = e2 /\ s' = s2 := by
 induction h with
 | done => intro e2 s2 h2; obtain ⟨rfl, rfl⟩ := runs_inv h2; exact ⟨rfl, rfl⟩
 | raise => intro e2 s2 h2; obtain ⟨rfl, rfl⟩ := runs_inv h2; exact ⟨rfl, rfl⟩
 | again _ _ ih => intro e2 s2 h2; exact ih (runs_inv h2)
 | rule _ ih => intro e2 s2 h2; exact ih (runs_inv h2)
 | «at» _ ih => intro e2 s2 h2; exact ih (runs_inv h2)
 | load g _ ih => intro e2 s2 h2; obtain ⟨o, g2, r⟩ := runs_inv h2; cases g.symm.trans g2; exact ih r
 | update _ _ ih => intro e2 s2 h2; exact ih (runs_inv h2)
 | loadIfAlive _ ih => intro e2 s2 h2; exact ih (runs_inv h2)
 | point _ ih => intro e2 s2 h2; exact ih (runs_inv h2)
 | alloc _ ih => intro e2 s2 h2; exact ih (runs_inv h2)
 | fresh _ ih => intro e2 s2 h2; exact ih (runs_inv h2)
 | ask _ ih => intro e2 s2 h2; exact ih (runs_inv h2)
 | choose _ _ ih => intro e2 s2 h2; exact ih (runs_inv h2)
 | os _ ih => intro e2 s2 h2; exact ih (runs_inv h2)
 | handled _ ih => intro e2 s2 h2; exact ih (runs_inv h2)
 | genState g _ ih => intro e2 s2 h2; obtain ⟨o, g2, r⟩ := runs_inv h2; cases g.symm.trans g2; exact ih r
 | stack _ ih => intro e2 s2 h2; exact ih (runs_inv h2)
 | thread _ ih => intro e2 s2 h2; exact ih (runs_inv h2)
 | newGen _ ih => intro e2 s2 h2; exact ih (runs_inv h2)
 | call _ _ ih1 ih2 =>
   intro e2 s2 h2
   obtain ⟨e1, s1, a, ⟨r, rfl, b⟩ | ⟨_, _, _, _, _, _, _, rfl, _, _⟩⟩ := runs_inv h2
   ·obtain ⟨x, rfl⟩ := ih1 a; cases x; exact ih2 b
   ·obtain ⟨x, _⟩ := ih1 a; cases x
 | callSusp _ ih1 =>
   intro e2 s2 h2
   obtain ⟨e1, s1, a, ⟨r, rfl, b⟩ | ⟨_, _, _, _, _, _, _, rfl, rfl, rfl⟩⟩ := runs_inv h2
   ·obtain ⟨x, _⟩ := ih1 a; cases x
   ·obtain ⟨x, rfl⟩ := ih1 a; cases x; exact ⟨rfl, rfl⟩
 | yield => intro e2 s2 h2; obtain ⟨rfl, rfl⟩ := runs_inv h2; exact ⟨rfl, rfl⟩
 | resumeFresh g _ _ _ ih1 ih2 =>
   intro e2 s2 h2
   obtain ⟨st, g2, o⟩ := runs_inv h2
   cases g.symm.trans g2
   rcases o with ⟨c, z, ⟨_, e1, s1, a, b⟩ | ⟨v, z2, n, _⟩ | ⟨x, z2, _⟩⟩ | ⟨_, _, _, _, _, _, z, _⟩ | ⟨z, _⟩ | ⟨z, _⟩
   ·cases z; obtain ⟨rfl, rfl⟩ := ih1 a; exact ih2 b
   ·cases z2; exact (n rfl).elim
   ·cases z2
   ·cases z
   ·cases z
   ·cases z
 | resumeSuspended g _ _ _ ih1 ih2 =>
   intro e2 s2 h2
   obtain ⟨st, g2, o⟩ := runs_inv h2
   cases g.symm.trans g2
   rcases o with ⟨c, z, _⟩ | ⟨_, _, _, _, _, _, z, e1, s1, a, b⟩ | ⟨z, _⟩ | ⟨z, _⟩
   ·cases z
   ·cases z; obtain ⟨rfl, rfl⟩ := ih1 a; exact ih2 b
   ·cases z
   ·cases z
 | resumeJustStarted g n _ ih =>
   intro e2 s2 h2
   obtain ⟨st, g2, o⟩ := runs_inv h2
   cases g.symm.trans g2
   rcases o with ⟨c, z, ⟨z2, _⟩ | ⟨v, z2, _, b⟩ | ⟨x, z2, _⟩⟩ | ⟨_, _, _, _, _, _, z, _⟩ | ⟨z, _⟩ | ⟨z, _⟩
   ·cases z2; exact (n rfl).elim
   ·exact ih b
   ·cases z2
   ·cases z
   ·cases z
   ·cases z
 | resumeThrowFresh g _ ih =>
   intro e2 s2 h2
   obtain ⟨st, g2, o⟩ := runs_inv h2
   cases g.symm.trans g2
   rcases o with ⟨c, z, ⟨z2, _⟩ | ⟨v, z2, _, _⟩ | ⟨x, z2, b⟩⟩ | ⟨_, _, _, _, _, _, z, _⟩ | ⟨z, _⟩ | ⟨z, _⟩
   ·cases z2
   ·cases z2
   ·cases z2; exact ih b
   ·cases z
   ·cases z
   ·cases z
 | resumeRunning g _ ih =>
   intro e2 s2 h2
   obtain ⟨st, g2, o⟩ := runs_inv h2
   cases g.symm.trans g2
   rcases o with ⟨c, z, _⟩ | ⟨_, _, _, _, _, _, z, _⟩ | ⟨_, b⟩ | ⟨z, _⟩
   ·cases z
   ·cases z
   ·exact ih b
   ·cases z
 | resumeFinished g _ ih =>
   intro e2 s2 h2
   obtain ⟨st, g2, o⟩ := runs_inv h2
   cases g.symm.trans g2
   rcases o with ⟨c, z, _⟩ | ⟨_, _, _, _, _, _, z, _⟩ | ⟨z, _⟩ | ⟨_, b⟩
   ·cases z
   ·cases z
   ·cases z
   ·exact ih b
 | segRet _ _ ih1 ih2 =>
   intro e2 s2 h2
   obtain ⟨e1, s1, a, o⟩ := runs_inv h2
   obtain ⟨rfl, rfl⟩ := ih1 a
   rcases o with ⟨_, _, _, _, _, _, _, _, z, z2, b⟩ | ⟨_, _, _, _, _, _, z, _, _⟩ | ⟨_, _, _, _, _, _, _, z, _⟩
   ·cases z; cases z2; exact ih2 b
   ·cases z
   ·cases z
 | segGen _ _ ih1 ih2 =>
   intro e2 s2 h2
   obtain ⟨e1, s1, a, o⟩ := runs_inv h2
   obtain ⟨rfl, rfl⟩ := ih1 a
   rcases o with ⟨_, _, _, _, _, _, _, _, z, _, _⟩ | ⟨_, _, _, _, _, _, z, z2, b⟩ | ⟨_, _, _, _, _, _, _, z, _⟩
   ·cases z
   ·cases z; cases z2; exact ih2 b
   ·cases z
 | segSuspOut g _ ih1 =>
   intro e2 s2 h2
   obtain ⟨e1, s1, a, o⟩ := runs_inv h2
   obtain ⟨rfl, rfl⟩ := ih1 a
   rcases o with ⟨_, _, _, _, _, _, _, _, _, z, _⟩ | ⟨_, _, _, _, _, _, _, z, _⟩ | ⟨_, _, _, _, _, _, _, z, ⟨_, z2, z3⟩ | ⟨_, _, _, _, _, _, g2, _⟩⟩
   ·cases z
   ·cases z
   ·cases z; cases z2; cases z3; exact ⟨rfl, rfl⟩
   ·cases g.symm.trans g2
 | segSuspGen g _ _ _ ih1 ih2 =>
   intro e2 s2 h2
   obtain ⟨e1, s1, a, o⟩ := runs_inv h2
   obtain ⟨rfl, rfl⟩ := ih1 a
   rcases o with ⟨_, _, _, _, _, _, _, _, _, z, _⟩ | ⟨_, _, _, _, _, _, _, z, _⟩ | ⟨_, _, _, _, _, _, _, z, ⟨g2, _, _⟩ | ⟨_, _, _, _, _, _, g2, b⟩⟩
   ·cases z
   ·cases z
   ·cases g.symm.trans g2
   ·cases z; cases g.symm.trans g2; exact ih2 b
theorem wakes_det {M : Model} {Γ : Ctx} {p : Pos} {g : Nat} {r : Resume} {s : Shared} {a b : GenResult} {s1 s2 : Shared} (h1 : Wakes M Γ p g r s a s1) (h2 : Wakes M Γ p g r s b s2) : a = b /\ s1 = s2 := by
 unfold Wakes at h1 h2
 cases hg : s.gens[g]? with
 | none => rw [hg] at h1; exact h1.elim
 | some gs =>
   rw [hg] at h1 h2
   cases gs with
   | fresh c =>
     cases r with
     | send v =>
       cases v with
       | none =>
         obtain ⟨e1, t1, x1, _, rfl, rfl⟩ := h1
         obtain ⟨e2, t2, x2, _, rfl, rfl⟩ := h2
         obtain ⟨rfl, rfl⟩ := runs_det x1 x2
         exact ⟨rfl, rfl⟩
       | _ => exact ⟨h1.1.trans h2.1.symm, h1.2.trans h2.2.symm⟩
     | throw x => exact ⟨h1.1.trans h2.1.symm, h1.2.trans h2.2.symm⟩
   | suspended k0 l0 c0 p0 fs cl =>
     obtain ⟨e1, t1, x1, _, rfl, rfl⟩ := h1
     obtain ⟨e2, t2, x2, _, rfl, rfl⟩ := h2
     obtain ⟨rfl, rfl⟩ := runs_det x1 x2
     exact ⟨rfl, rfl⟩
   | running => exact ⟨h1.1.trans h2.1.symm, h1.2.trans h2.2.symm⟩
   | finished => exact ⟨h1.1.trans h2.1.symm, h1.2.trans h2.2.symm⟩
theorem wp_and {α : Type} (M : Model) (Γ : Ctx) (t : Sem α) : ∀ {Q1 Q2 : α -> Pos -> Shared -> Prop} {E1 E2 : Value -> Pos -> Shared -> Prop} {p : Pos} {s : Shared}, Sem.wp M Γ t Q1 E1 p s -> Sem.wp M Γ t Q2 E2 p s ->
  Sem.wp M Γ t (fun a p s => Q1 a p s /\ Q2 a p s) (fun e p s => E1 e p s /\ E2 e p s) p s := by
 induction t with
 | pure a => intro _ _ _ _ _ _ h1 h2; rw [Sem.wp] at h1 h2 ⊢; exact ⟨h1, h2⟩
 | raise e => intro _ _ _ _ _ _ h1 h2; rw [Sem.wp] at h1 h2 ⊢; exact ⟨h1, h2⟩
 | load a part k ih =>
   intro _ _ _ _ _ _ h1 h2
   rw [Sem.wp] at h1 h2 ⊢
   obtain ⟨o, g, h1⟩ := h1
   obtain ⟨o2, g2, h2⟩ := h2
   rw [g] at g2; cases g2
   exact ⟨o, g, ih _ h1 h2⟩
 | update a part f k ih => intro _ _ _ _ _ _ h1 h2; rw [Sem.wp] at h1 h2 ⊢; exact ⟨h1.1, ih _ h1.2 h2.2⟩
 | choose src n k ih => intro _ _ _ _ _ _ h1 h2; rw [Sem.wp] at h1 h2 ⊢; exact ⟨h1.1, ih _ h1.2 h2.2⟩
 | call c h g l k ih =>
   intro _ _ _ _ _ _ h1 h2
   rw [Sem.wp] at h1 h2 ⊢
   obtain ⟨r, s1, x1, h1⟩ := h1
   obtain ⟨r2, s2, x2, h2⟩ := h2
   obtain ⟨e, rfl⟩ := runs_det x1 x2
   cases e
   exact ⟨r, s1, x1, ih _ h1 h2⟩
 | genState g k ih =>
   intro _ _ _ _ _ _ h1 h2
   rw [Sem.wp] at h1 h2 ⊢
   obtain ⟨o, g, h1⟩ := h1
   obtain ⟨o2, g2, h2⟩ := h2
   rw [g] at g2; cases g2
   exact ⟨o, g, ih _ h1 h2⟩
 | resume g r l k ih =>
   intro _ _ _ _ _ _ h1 h2
   rw [Sem.wp] at h1 h2 ⊢
   obtain ⟨r, s1, x1, h1⟩ := h1
   obtain ⟨r2, s2, x2, h2⟩ := h2
   obtain ⟨rfl, rfl⟩ := wakes_det x1 x2
   exact ⟨r, s1, x1, ih _ h1 h2⟩
 | unsupported | finish | yield | fork | await | register => intro _ _ _ _ _ _ h1 _; rw [Sem.wp] at h1; exact h1.elim
 | rule _ k ih | «at» _ k ih | alloc _ k ih | loadIfAlive _ k ih | point _ k ih | fresh k ih | ask k ih | os _ _ k ih | handled _ k ih | newGen _ k ih | stack k ih | thread k ih => intro _ _ _ _ _ _ h1 h2; rw [Sem.wp] at h1 h2 ⊢; exact ih _ h1 h2
theorem wpAny_and {α : Type} {M : Model} {A : Around} {t : Sem α} {Q1 Q2 : α -> Shared -> Prop} {E1 E2 : Value -> Shared -> Prop} {s : Shared} (h1 : wpAny M A t Q1 E1 s) (h2 : wpAny M A t Q2 E2 s) :
  wpAny M A t (fun a s => Q1 a s /\ Q2 a s) (fun e s => E1 e s /\ E2 e s) s := fun Γ p hΓ => wp_and M Γ t (h1 Γ p hΓ) (h2 Γ p hΓ)
end L2
namespace L2
open PySem PySem.Spec PySem.W PyProof.Rows
section
variable {M : Model} {A : Around} {E : Value -> Shared -> Prop} {s : Shared} {base : Heap} {env : Env} {outer : List Env} {L e : Addr} {cls a0 : Value}
theorem NoCtx.upd {h : Heap} {a e : Addr} {i : Nat} {v : Value} (x : NoCtx h e) (hi : a ≠ e \/ i ≠ 2) : NoCtx (h.update a (Obj.mapFields (·.setIfInBounds i v))) e := by
 obtain ⟨o, fs, ho, hd, h2⟩ := x
 by_cases z : a = e
 ·subst z
  have hi2 : i ≠ 2 := hi.resolve_left fun q => q rfl
  refine ⟨_, _, Heap.get?_update_self _ ho (Obj.isFreed_of_fields (Obj.data_mapFields hd _)), Obj.data_mapFields hd _, ?_⟩
  rw [Array.getElem?_setIfInBounds_ne hi2]; exact h2
 ·exact ⟨o, fs, (Heap.get?_update_other _ _ z).trans ho, hd, h2⟩
theorem NoCtx.push {h : Heap} {e : Addr} (x : NoCtx h e) (o : Obj) : NoCtx (h.push o) e := let ⟨p, fs, ho, r⟩ := x; ⟨p, fs, Heap.get?_push_of_some _ ho, r⟩
theorem ctx_entry {oe : Obj} {vs : Array Value} {head : Value} {b : Bool} {Q : Unit -> Shared -> Prop} (hfr : A.frames = some (env :: outer)) (hl : s.heap.FunFrames base (env :: outer)) (hf : env.frame = some L)
  (he : s.heap.get? e = some oe) (hd : oe.data = .fields vs) (hsz : 1 < vs.size) (h2 : vs[2]? = some Value.none)
  (h : ∀ h' T oT ts, NoCtx h' e -> (∃ o ws, h'.get? e = some o /\ o.data = .fields ws /\ ws[1]? = some (.ref T)) -> h'.get? T = some oT -> oT.data = .fields ts -> 3 < ts.size -> T ≠ e -> Q () { s with heap := h' }) :
  wpAny M A (do let a <- frameOf env; let pl <- entryPlaceOf L b; let c <- EntryCells.newEntry head a .none (rawInt L) .none pl; setField (.ref e) 1 c) Q E s := by
 have ne : e ∉ (env :: outer).filterMap (·.frame) := fun hm => by
  obtain ⟨_, o, ho, hnf⟩ := hl.mem hm
  rw [he] at ho; cases ho; exact hnf vs hd
 refine wpAny_bind (wpAny_frameOf_fun hfr hl hf fun h1 hs => ?_)
 refine wpAny_bind (wpAny_entryPlaceOf fun pl hpl => ?_)
 unfold EntryCells.newEntry newFields
 refine wpAny_bind (wpAny_newObj_type ?_ (hpl.sizeOk5 _ _ _ _ _))
 have e1 : h1.get? e = some oe := (hs.2.1 e ne).trans he
 have lt := Heap.lt_size e1
 have hT := (Heap.get?_update_other (h1.push { cls := .type "traceback", dict := none, data := .fields ([head, .ref L, .none, rawInt L, .none] ++ (if pl.isEmpty then List.replicate 6 Value.none else pl)).toArray }) (Obj.mapFields (·.setIfInBounds 1 (Value.ref h1.objs.size))) (Nat.ne_of_lt lt)).trans (Heap.get?_push_size h1 rfl)
 refine wpAny_setField (Heap.get?_push_of_some _ e1) hd hsz (h _ h1.objs.size _ _ ?_ ?_ hT rfl ?_ (Nat.ne_of_gt lt))
 ·exact NoCtx.upd (NoCtx.push ⟨oe, vs, e1, hd, h2⟩ _) (.inr (by decide))
 ·exact ⟨_, _, Heap.get?_update_self _ (Heap.get?_push_of_some _ e1) (Obj.isFreed_of_fields (Obj.data_mapFields hd _)), Obj.data_mapFields hd _, by simp [hsz]⟩
 ·simp only [List.size_toArray, List.length_append, List.length_cons, List.length_nil]; lia
theorem ctx_set {Q : Unit -> Shared -> Prop} {oe oT : Obj} {vs ts : Array Value} {T : Addr} {fl : Option Addr} (x : NoCtx s.heap e) (he : s.heap.get? e = some oe) (hd : oe.data = .fields vs) (h1 : vs[1]? = some (.ref T)) (hT : s.heap.get? T = some oT) (hdT : oT.data = .fields ts) (hz : 3 < ts.size)
  (h : ∀ h', NoCtx h' e -> Q () { s with heap := h' }) : wpAny M A (setFlight (.ref e) fl) Q E s := by
 unfold setFlight
 refine wpAny_bind (wpAny_field he hd h1 ?_)
 rw [if_pos (show (Value.ref T != Value.none) = true from by simp)]
 exact wpAny_setField hT hdT hz (h _ (x.upd (.inr (by decide))))
theorem ctx_note {Q : Unit -> Shared -> Prop} (hfr : A.frames = some (env :: outer)) (hf : env.frame = some L) (hfl : Heap.FlyingW base (env :: outer) e cls a0 s.heap) (x : NoCtx s.heap e)
  (h : ∀ h' T oT ts, NoCtx h' e -> (∃ o ws, h'.get? e = some o /\ o.data = .fields ws /\ ws[1]? = some (.ref T)) -> h'.get? T = some oT -> oT.data = .fields ts -> 3 < ts.size -> T ≠ e -> Q () { s with heap := h' }) : wpAny M A (noteFrame (.ref e) env) Q E s := by
 obtain ⟨f1, f2, hl, oe, vs, T, oT, ts, he, _, hd, h1, hnT, hTe, hT, hdT, h3⟩ := hfl
 obtain ⟨o', fs, ho', hd', h2⟩ := id x
 rw [he] at ho'; cases ho'
 rw [hd] at hd'; cases hd'
 unfold noteFrame
 simp only [hf]
 refine wpAny_bind (wpAny_field he hd h1 ?_)
 rw [if_pos (show (Value.ref T != Value.none) = true from by simp)]
 refine wpAny_bind (wpAny_field hT hdT h3 ?_)
 rw [if_neg (show ¬ ((Value.none == rawInt L) = true) from by simp [rawInt])]
 refine wpAny_bind (wpAny_setField hT hdT (Array.getElem?_eq_some_iff.mp h3).1 ?_)
 have ot : ∀ b, b ≠ T -> (s.heap.update T (Obj.mapFields (·.setIfInBounds 3 Value.none))).get? b = s.heap.get? b := fun b hb => Heap.get?_update_other _ _ (Ne.symm hb)
 exact ctx_entry hfr (hl.of_keeps fun b o hb hnf => ⟨o, (ot b fun q => by rw [q, hT] at hb; cases hb; exact hnf ts hdT).trans hb, rfl⟩) hf ((ot e (Ne.symm hTe)).trans he) hd (Array.getElem?_eq_some_iff.mp h1).1 h2 h
theorem ctx_leaves {Q : Unit -> Shared -> Prop} (hfr : A.frames = some (env :: outer)) (hf : env.frame = some L) (hfl : Heap.FlyingW base (env :: outer) e cls a0 s.heap) (x : NoCtx s.heap e) (h : ∀ h', NoCtx h' e -> Q () { s with heap := h' }) : wpAny M A (leaving env (.ref e)) Q E s := by
 unfold leaving
 refine wpAny_bind (ctx_note hfr hf hfl x fun h' T oT ts x' ⟨o, ws, k1, k2, k3⟩ k4 k5 k6 _ => ?_)
 exact ctx_set (s := { s with heap := h' }) x' k1 k2 k3 k4 k5 k6 fun h2 x2 => h h2 x2
theorem ctx_made {h0 : Heap} {args : List Value} {Q : Unit -> Shared -> Prop} (hfr : A.frames = some (env :: outer)) (hf : env.frame = some L) (hl : h0.FunFrames base (env :: outer)) (hx : Heap.MadeExcOf h0 s.heap e cls args) (h : ∀ h', NoCtx h' e -> Q () { s with heap := h' }) : wpAny M A (leaving env (.ref e)) Q E s := by
 obtain ⟨t, he, _, _⟩ := hx.there
 unfold leaving noteFrame
 simp only [hf]
 refine wpAny_bind (wpAny_bind (wpAny_field he rfl (x := Value.none) rfl ?_))
 rw [if_neg (by decide)]
 refine ctx_entry hfr (hl.of_keeps fun b o hb _ => ⟨o, hx.keeps b o hb, rfl⟩) hf he rfl (Nat.lt_of_lt_of_le (show 1 < 6 by decide) (Nat.le_refl _)) rfl fun h' T oT ts x' ⟨o, ws, k1, k2, k3⟩ k4 k5 k6 _ => ?_
 exact ctx_set (s := { s with heap := h' }) x' k1 k2 k3 k4 k5 k6 fun h2 x2 => h h2 x2
theorem looks_onX {Q : Unit -> Shared -> Prop} (hfr : A.frames = some (env :: outer)) (hf : env.frame = some L) (hfl : Heap.FlyingW base (env :: outer) e cls a0 s.heap) (x : NoCtx s.heap e)
  (hQ : ∀ h', Heap.HeldW base (env :: outer) e cls a0 L h' -> NoCtx h' e -> s.heap.UpToSlots h' -> Q () { s with heap := h' }) : wpAny M A (noteFrame (.ref e) env) Q E s :=
 wpAny_mono (wpAny_and (wpAny_looks_onW (E := fun _ _ => False) (Q := fun _ s2 => ∃ h2, s2 = { s with heap := h2 } /\ Heap.HeldW base (env :: outer) e cls a0 L h2 /\ s.heap.UpToSlots h2) hfr hf hfl fun h2 k1 k2 => ⟨h2, rfl, k1, k2⟩)
  (ctx_note (E := fun _ _ => False) (Q := fun _ s2 => NoCtx s2.heap e) hfr hf hfl x fun _ _ _ _ k _ _ _ _ _ => k)) (fun _ s2 ⟨⟨h2, e2, k1, k2⟩, nc⟩ => by subst e2; exact hQ h2 k1 nc k2) fun _ _ z => z.1.elim
theorem ctx_at {fl : Value} {l : List Env} {Q : Unit -> Shared -> Prop} (ht : s.heap.TracedAtW base e cls a0 fl) (x : NoCtx s.heap e) (h : ∀ h', NoCtx h' e -> Q () { s with heap := h' }) : wpAny M A (setFlight (.ref e) none) Q E s := by
 obtain ⟨oe, vs, T, oT, ts, he, _, hd, h1, _, _, hT, hdT, h3⟩ := ht
 exact ctx_set x he hd h1 hT hdT (Array.getElem?_eq_some_iff.mp h3).1 h
theorem landsX {l : List Env} {Q : Unit -> Shared -> Prop} (hh : Heap.HeldW base l e cls a0 L s.heap) (x : NoCtx s.heap e) (hQ : ∀ h', Heap.FlyingW base l e cls a0 h' -> NoCtx h' e -> s.heap.UpToSlots h' -> Q () { s with heap := h' }) : wpAny M A (setFlight (.ref e) none) Q E s :=
 wpAny_mono (wpAny_and (wpAny_landsW (E := fun _ _ => False) (Q := fun _ s2 => ∃ h2, s2 = { s with heap := h2 } /\ Heap.FlyingW base l e cls a0 h2 /\ s.heap.UpToSlots h2) hh fun h2 k1 k2 => ⟨h2, rfl, k1, k2⟩)
  (ctx_at (E := fun _ _ => False) (l := l) (Q := fun _ s2 => NoCtx s2.heap e) hh.2.2.2 x fun _ k => k)) (fun _ s2 ⟨⟨h2, e2, k1, k2⟩, nc⟩ => by subst e2; exact hQ h2 k1 nc k2) fun _ _ z => z.1.elim
theorem lands_againX {l : List Env} {Q : Unit -> Shared -> Prop} (hh : Heap.FlyingW base l e cls a0 s.heap) (x : NoCtx s.heap e) (hQ : ∀ h', Heap.FlyingW base l e cls a0 h' -> NoCtx h' e -> s.heap.UpToSlots h' -> Q () { s with heap := h' }) : wpAny M A (setFlight (.ref e) none) Q E s :=
 wpAny_mono (wpAny_and (lands_againW (E := fun _ _ => False) (Q := fun _ s2 => ∃ h2, s2 = { s with heap := h2 } /\ Heap.FlyingW base l e cls a0 h2 /\ s.heap.UpToSlots h2) hh fun h2 k1 k2 => ⟨h2, rfl, k1, k2⟩)
  (ctx_at (E := fun _ _ => False) (l := l) (Q := fun _ s2 => NoCtx s2.heap e) hh.2.2.2.at x fun _ k => k)) (fun _ s2 ⟨⟨h2, e2, k1, k2⟩, nc⟩ => by subst e2; exact hQ h2 k1 nc k2) fun _ _ z => z.1.elim
end
end L2
namespace L2
open PySem PySem.Spec PySem.W PyProof.Rows
theorem ObjOk.there {P : Program} {w : World} {H : Hp} {h : Heap} {a : Addr} {o : HO} (x : ObjOk P w H h a o) : ∃ ob, h.get? a = some ob := by
 induction o with
 | lst xs => obtain ⟨_, _, _, _, e⟩ := x; exact ⟨_, e⟩
 | tup xs => obtain ⟨_, _, _, o, e, _⟩ := x; exact ⟨_, e⟩
 | dK kvs => obtain ⟨_, _, _, _, o, es, ep, e, _⟩ := x; exact ⟨_, e⟩
 | dT kvs => obtain ⟨_, _, _, _, o, es, ep, e, _⟩ := x; exact ⟨_, e⟩
 | set S n => obtain ⟨_, _, _, _, e, _⟩ := x; exact ⟨_, e⟩
 | ins C dx fs => obtain ⟨_, _, _, e, _⟩ := x; exact ⟨_, e⟩
 | own y => exact x
 | xd fs => obtain ⟨_, ⟨o, es, ep, e, _⟩, _⟩ := x; exact ⟨_, e⟩
 | met f y => exact ⟨_, x⟩
 | rng lo hi => obtain ⟨_, _, _, e⟩ := x; exact ⟨_, e⟩
 | frz ob u ih => exact ⟨_, x.1⟩
 | tbl ps => exact ⟨_, x⟩
 | lam p q => obtain ⟨_, e, _⟩ := x; exact ⟨_, e⟩
 | code q => obtain ⟨_, _, _, _, z, e, _⟩ := x; cases z; exact ⟨_, e⟩
 | ext φ => exact x.2.1
noncomputable def Cov (g : Heap) (l : List Env) (H : Hp) (B : Heap) : Prop := ∀ b, b ∉ frs l -> (H b ≠ none \/ ∃ o0, g.get? b = some o0) -> ∃ o, B.get? b = some o
theorem Cov.at {g h B : Heap} {l : List Env} {H : Hp} (c : Cov g l H B) (st : B.StaysIn h) {b : Addr} {o : Obj} (q : h.get? b = some o) (n : b ∉ frs l) (i : H b ≠ none \/ ∃ o0, g.get? b = some o0) : B.get? b = some o := by
 obtain ⟨o', e⟩ := c b n i
 have := st b o' e
 rw [q] at this
 cases this
 exact e
theorem un_fly {l : List Env} {H H1 : Hp} {g h h' B base : Heap} (u : Un (frs l) [] H H1 g h) (c : Cov g l H1 B) (st : B.StaysIn h) (st' : B.StaysIn h') (up : h.UpToSlots h') (fr : h.FunFrames base l) : Un (frs l) [] H H1 g h' where
 keep := fun b o q n hb hx => st' b o (c.at st (u.keep b o q n hb hx) hb (.inr ⟨_, q⟩))
 slot := fun b o q n hb hx => by
  obtain ⟨sl, e⟩ := u.slot b o q n hb hx
  obtain ⟨_, o1, ho1, hnf⟩ := fr.mem hb
  rw [e] at ho1
  cases ho1
  obtain ⟨sl', e'⟩ := up b _ e hnf
  exact ⟨sl', e'⟩
 free := u.free
 there := fun b o q hx => by
  by_cases hb : b ∈ frs l
  ·obtain ⟨_, o1, ho1, hnf⟩ := fr.mem hb
   obtain ⟨sl', e'⟩ := up b _ ho1 hnf
   exact ⟨_, e'⟩
  ·obtain ⟨o', e⟩ := u.there b o q hx
   exact ⟨o', st' b o' (c.at st e hb (.inr ⟨_, q⟩))⟩
 tups := u.tups
 frzs := u.frzs
 tbls := u.tbls
theorem hok_fly {P : Program} {w : World} {l : List Env} {H : Hp} {g h h' B : Heap} (x : HOk P w H h) (c : Cov g l H B) (st : B.StaysIn h) (st' : B.StaysIn h') (nf : ∀ b ∈ frs l, H b = none) : HOk P w H h' := fun a o e => by
 refine (x a o e).stay (fun b u hb q => ?_) (fun _ q => q) fun _ _ q => q
 have ht : H b ≠ none := by
  rcases hb with rfl | hb
  ·rw [e]; exact fun z => nomatch z
  ·rw [hb]; exact fun z => nomatch z
 exact st' b u (c.at st q (fun z => ht (nf b z)) (.inl ht))
noncomputable def CXr (P : Program) (w : World) : CXT := fun outer H s E e s' => ∃ (a t C : Addr) (B : Heap) (H1 : Hp), e = .ref a /\ s'.os = s.os /\ AllBare s'.gens /\ Un (frs outer) [] H H1 s.heap s'.heap /\ HOk P w H1 s'.heap /\
 s.heap.get? a = none /\ H1 a = none /\ Cov s.heap outer H1 B /\ Heap.FlyingW B outer a (.ref C) (.ref t) s'.heap /\ NoCtx s'.heap a /\ E (.ref C) none H1
section
variable {P : Program} {w : World} {K : PySem.W.Frag} {mg : Str -> Option Value} {base : Heap} {N : List Str} {qual : Str} {scope : Scope} {f : Addr} {cd : Value} {A : Around} {outer : List Env} {s : Shared} {H : Hp} {E : XK}
theorem Inv.tracked {X : Cx} {pins : List (Addr × Obj)} {σ : St} {H1 : Hp} {s1 : Shared} (I : Inv X pins σ H1 s1) {b : Addr} (n : H1 b ≠ none) : ∃ o, s1.heap.get? b = some o := by
 cases q : H1 b with
 | none => exact absurd q n
 | some o => exact (I.hok b o q).there
theorem xe_made {pins : List (Addr × Obj)} {σ : St} {H1 : Hp} {s1 : Shared} {h' : Heap} {a C : Addr} {vs : List Value} (I : Inv (cxOf (CXr P w) P w K mg base N qual scope f cd A outer s H E) pins σ H1 s1)
  (hx : Heap.MadeExcOf s1.heap h' a (.ref C) vs) (hE : E (.ref C) none H1) : (cxOf (CXr P w) P w K mg base N qual scope f cd A outer s H E).xe (.ref a) { s1 with heap := h' } := by
 have st : (hideAll s1.heap (frs (envOfC qual scope s.heap.objs.size f cd :: outer))).StaysIn s1.heap := fun b o q => of_hideAll _ q
 have cov0 : ∀ b, b ∉ frs outer -> (H1 b ≠ none \/ ∃ o0, s.heap.get? b = some o0) -> ∃ o, (hideAll s1.heap (frs (envOfC qual scope s.heap.objs.size f cd :: outer))).get? b = some o := fun b nb i => by
  have hb : b ∉ frs (envOfC qual scope s.heap.objs.size f cd :: outer) := fun z => by
   rcases List.mem_cons.mp (I.stkSub b z) with e | z
   ·rcases i with i | ⟨o0, i⟩
    ·exact i (by rw [e]; exact I.free)
    ·exact absurd (Nat.lt_of_lt_of_le (Heap.lt_size i) (by rw [e]; exact I.ok.above)) (Nat.lt_irrefl _)
   ·exact nb z
  have ex : ∃ o, s1.heap.get? b = some o := by
   rcases i with i | ⟨o0, i⟩
   ·exact I.tracked i
   ·exact I.base.there b o0 i (fun z => nomatch z)
  obtain ⟨o, e⟩ := ex
  exact ⟨o, hideAll_get _ e hb⟩
 have fh := funFrames_hide I.stack fun env he b hb => List.mem_filterMap.mpr ⟨env, he, hb⟩
 refine wpAny_mono (wpAny_and (wpAny_leaves_madeW (E := fun _ _ => False) (Q := fun _ s2 => ∃ h2 t, s2 = { s1 with heap := h2 } /\ Heap.FlyingW (hideAll s1.heap (frs (envOfC qual scope s.heap.objs.size f cd :: outer))) outer a (.ref C) (.ref t) h2 /\ Heap.UpToSlots h' h2)
  (h := s1.heap) I.ok.frames rfl st fh hx fun h2 t fly _ _ up => ⟨h2, t, rfl, fly, up⟩) (ctx_made (E := fun _ _ => False) (Q := fun _ s2 => NoCtx s2.heap a) I.ok.frames rfl fh hx fun _ x => x)) (fun _ s2 ⟨⟨h2, t, e2, fly, up⟩, nc⟩ => ?_) fun _ _ z => z.1.elim
 subst e2
 have up2 : s1.heap.UpToSlots h2 := (Heap.UpToSlots.of_keeps hx.keeps).trans up
 refine ⟨a, t, C, _, H1, rfl, I.os, I.bare, un_fly I.base cov0 st fly.1 up2 I.funs, hok_fly I.hok cov0 st fly.1 (fun b hb => ?_), ?_, ?_, cov0, fly, nc, hE⟩
 ·obtain ⟨_, o, ho, _⟩ := I.ok.funs.mem hb
  exact I.base.free b o ho (I.ok.frf b hb) fun z => nomatch z
 ·cases q : s.heap.get? a with
  | none => rfl
  | some o =>
    obtain ⟨o', e⟩ := I.base.there a o q (fun z => nomatch z)
    rw [hx.new] at e; cases e
 ·cases q : H1 a with
  | none => rfl
  | some o =>
    obtain ⟨o', e⟩ := I.tracked (b := a) (by rw [q]; exact fun z => nomatch z)
    rw [hx.new] at e; cases e
theorem pass_r : Passes (CXr P w) (cxOf (CXr P w) P w K mg base N qual scope f cd A outer s H E) E := by
 rintro pins σ H0 s0 e s' I ⟨a, t, C, B, H1, rfl, os, bare, un, hok, na, ta, cov, fly, nc0, hE⟩
 have I' := I.call' (ch := []) os un hok bare (fun b z => nomatch z)
 have cov0 : Cov s.heap outer H1 B := fun b nb i => by
  refine cov b (fun z => ?_) ?_
  ·rcases List.mem_cons.mp (I.stkSub b z) with e | z
   ·rcases i with i | ⟨o0, i⟩
    ·exact i (by rw [e]; exact I'.free)
    ·exact absurd (Nat.lt_of_lt_of_le (Heap.lt_size i) (by rw [e]; exact I.ok.above)) (Nat.lt_irrefl _)
   ·exact nb z
  ·rcases i with i | ⟨o0, i⟩
   ·exact .inl i
   ·exact .inr (I.base.there b o0 i fun z => nomatch z)
 refine wpAny_mono (wpAny_and (wpAny_leaves_onW (E := fun _ _ => False) (Q := fun _ s2 => ∃ h2, s2 = { s' with heap := h2 } /\ Heap.FlyingW B outer a (.ref C) (.ref t) h2 /\ s'.heap.UpToSlots h2) I.ok.frames rfl fly fun h2 fly2 up => ⟨h2, rfl, fly2, up⟩)
  (ctx_leaves (E := fun _ _ => False) (Q := fun _ s2 => NoCtx s2.heap a) I.ok.frames rfl fly nc0 fun _ x => x)) (fun _ s2 ⟨⟨h2, e2, fly2, up⟩, nc⟩ => ?_) fun _ _ z => z.1.elim
 subst e2
 refine ⟨a, t, C, B, H1, rfl, I'.os, I'.bare, un_fly I'.base cov0 fly.1 fly2.1 up I'.funs, hok_fly I'.hok cov0 fly.1 fly2.1 (fun b hb => ?_), ?_, ta, cov0, fly2, nc, hE⟩
 ·obtain ⟨_, o, ho, _⟩ := I'.ok.funs.mem hb
  exact I'.base.free b o ho (I'.ok.frf b hb) fun z => nomatch z
 ·cases q : s.heap.get? a with
  | none => rfl
  | some o =>
    obtain ⟨o', e⟩ := I.base.there a o q (fun z => nomatch z)
    rw [na] at e; cases e
structure ExC (K : PySem.W.Frag) (mg : Str -> Option Value) (x : Str) (C : Addr) (bm tl : List Value) (newId : String) : Prop where
 bound : mg x = some (.ref C)
 obj : ∃ (n : Addr) (nm q : Str) (bs : List Value) (hdct : Bool) (sn : List Str) (sub : List Value) (ab : Bool) (col : Option Bool) (dd : Option Addr) (k0 k1 k2 k3 k5 : Option Value) (mN : Str -> Option Value),
  mN "__init__" = none /\ ∀ h : Heap, K.In h -> h.get? C = some (excClassObj nm q C n bs tl hdct sn sub ab col dd k0 k1 k2 k3 k5 newId) /\ h.Ns n mN /\ OwnTail h bm tl
theorem ps_raise {x : Str} {C : Addr} {bm tl bmN : List Value} {newId nid initId inN B Bn : String} {e₀ : Expr} {rest : List Expr} {np cpos pos : Pos} {t : TA} (hC : ExC K mg x C bm tl newId) (Fn : ExcBaseFacts Bn newId inN bmN) (hBn : bm.contains (.type Bn) = true)
  (FB : ExcBaseFacts B nid initId bm) (ha : PA (cxOf (CXr P w) P w K mg base N qual scope f cd A outer s H E) (e₀ :: rest) t) (hg : Gl (cxOf (CXr P w) P w K mg base N qual scope f cd A outer s H E) x := by rfl)
  (he : starEach (e₀ :: rest) (envOfC qual scope s.heap.objs.size f cd) = (false, eval e₀ (envOfC qual scope s.heap.objs.size f cd)) :: starEach rest (envOfC qual scope s.heap.objs.size f cd) := by rfl)
  (hplain : (backTo cpos (starEach rest (envOfC qual scope s.heap.objs.size f cd))).any (·.1) = false := by rfl) (hd : (x == ("__debug__" : Str)) = false := by decide) :
  PS (cxOf (CXr P w) P w K mg base N qual scope f cd A outer s H E) (.Raise (some (.Call (.Name x np) (e₀ :: rest) [] cpos)) none pos) (fun _ σ H0 => t σ H0 fun vs H1 => vs.length <= sizeLine /\ E (.ref C) none H1) := by
 intro pins s1 σ H1 D I h
 obtain ⟨n, nm, q, bs, hdct, sn, sub, ab, col, dd, k0, k1, k2, k3, k5, mN, hni, all⟩ := hC.obj
 obtain ⟨_, _, T⟩ := all _ I.kIn
 refine wpAny_Raise_call_subU (C := C) (nm := nm) (q := q) (N := n) (bs := bs) (bm := tl) (hdct := hdct) (sn := sn) (sub := sub) (ab := ab) (col := col) (dd := dd) (k0 := k0) (k1 := k1) (k2 := k2) (k3 := k3) (k5 := k5)
  Fn hBn FB (mN := mN) (T.hasType FB.hasBase) (I.ok.hd rfl) ?_ hni (ld_glob I hg hC.bound ⟨rfl, ?_⟩ hd)
 ·show (backTo cpos (starEach (e₀ :: rest) (envOfC qual scope s.heap.objs.size f cd))).any (·.1) = false
  rw [he]; show (false || (backTo cpos (starEach rest (envOfC qual scope s.heap.objs.size f cd))).any (·.1)) = false; rw [hplain]; rfl
 ·show wpAny _ _ (evalArgs (.ref C) true (backTo cpos (starEach (e₀ :: rest) (envOfC qual scope s.heap.objs.size f cd))) []) _ _ s1
  have hp := ha cpos pins s1 σ H1 _ I h
  have hp' : wpAny (model P w) (A.deeper (envOfC qual scope s.heap.objs.size f cd)) (spliced (backTo cpos (starEach (e₀ :: rest) (envOfC qual scope s.heap.objs.size f cd)))) _ _ s1 := hp
  rw [he] at hp' ⊢
  refine Calls.evalArgs_plain (wpAny_mono hp' (fun us s2 ⟨vs, H2, I2, r2, hz, hE⟩ => ⟨rfl, by show us.length <= _; rw [<- r2.length]; exact hz, (all _ I2.kIn).1, (all _ I2.kIn).2.1, (all _ I2.kIn).2.2, fun h' e hm => xe_made I2 hm hE⟩) fun _ _ y => y)
end
noncomputable abbrev Cx.inX (X : Cx) (a : Addr) : Cx := { X with A := X.A.mark (some (.ref a)), calm := false, xe := fun _ _ => False }
theorem Cx.Ok.inX {X : Cx} (ok : X.Ok) (a : Addr) : (X.inX a).Ok :=
 ⟨ok.mod, ok.kind, ok.glob, ok.blt, ok.above, ok.inj, ok.has, ok.cab, (fun z => nomatch z), ok.frames, ok.stk, ok.exf, ok.bs, ok.bsz, ok.noex, ok.exfs, ok.funs, ok.frf⟩
theorem Inv.inX {X : Cx} {pins : List (Addr × Obj)} {σ : St} {H : Hp} {s : Shared} (I : Inv X pins σ H s) (a : Addr) : Inv (X.inX a) pins σ H s := ⟨I.ok.inX a, I.os, I.bare, I.base, I.loc, I.cell, I.free, I.freeC, I.pin, I.hok, I.len⟩
theorem Inv.outX {X : Cx} {pins : List (Addr × Obj)} {σ : St} {H : Hp} {s : Shared} {a : Addr} (I : Inv (X.inX a) pins σ H s) (ok : X.Ok) : Inv X pins σ H s := ⟨ok, I.os, I.bare, I.base, I.loc, I.cell, I.free, I.freeC, I.pin, I.hok, I.len⟩
theorem Inv.trackX {X : Cx} {pins : List (Addr × Obj)} {σ σ' : St} {H0 H1 : Hp} {s0 s1 : Shared} {a : Addr} {o : HO} (I : Inv X pins σ H1 s1) (I0 : Inv X pins σ' H0 s0) (na : s0.heap.get? a = none) (ta : H1 a = none) (new : ObjOk X.prog X.w (upd H1 a o) s1.heap a o) :
  Inv X pins σ (upd H1 a o) s1 := by
 have ne : ∀ b ob, s0.heap.get? b = some ob -> b ≠ a := fun b ob q e => by rw [e, na] at q; cases q
 have nt : ∀ b u, H1 b = some u -> b ≠ a := fun b u q e => by rw [e, ta] at q; cases q
 have nL : X.env.locals ≠ a := by
  obtain ⟨m, ⟨ol, _, _, e, _⟩, _⟩ := I0.loc
  exact ne _ _ e
 refine ⟨I.ok, I.os, I.bare, ⟨I.base.keep, I.base.slot, fun b ob q n hx => ?_, I.base.there, fun b xs q => ?_, fun b ob u q => ?_, fun b ps q => ?_⟩, I.loc, I.cell, ?_, fun x c e => ?_, fun p hp => ?_, fun b u q => ?_, I.len⟩
 ·obtain ⟨o', e⟩ := I0.base.there b ob q hx
  rw [upd_ne (ne b o' e)]; exact I.base.free b ob q n hx
 ·have := I.base.tups b xs q
  rw [upd_ne (nt _ _ this)]; exact this
 ·have := I.base.frzs b ob u q
  rw [upd_ne (nt _ _ this)]; exact this
 ·obtain ⟨more, this⟩ := I.base.tbls b ps q
  exact ⟨more, by rw [upd_ne (nt _ _ this)]; exact this⟩
 ·rw [upd_ne nL]; exact I.free
 ·obtain ⟨v, oc, e1, _⟩ := I0.cell x c e
  rw [upd_ne (ne _ _ e1)]; exact I.freeC x c e
 ·obtain ⟨e, n, r1, r2, r3⟩ := I.pin p hp
  exact ⟨e, by rw [upd_ne (ne _ _ (I0.pin p hp).1)]; exact n, r1, r2, r3⟩
 ·by_cases hb : b = a
  ·subst hb; rw [upd_same] at q; cases q; exact new
  ·rw [upd_ne hb] at q
   refine (I.hok b u q).stay (fun _ _ _ z => z) (fun c z => by rw [upd_ne (nt _ _ z)]; exact z) fun c xs z => z.ne (by rcases z with z | ⟨_, z⟩ <;> exact nt _ _ z)
theorem Inv.forget {X : Cx} {pins : List (Addr × Obj)} {σ : St} {H : Hp} {s : Shared} {h' : Heap} {tk : Nat} {m : Str -> Option Value} (I : Inv X pins σ H s) (hn : h'.Ns X.env.locals m) (hs : Heap.SameBut X.env.locals s.heap h') :
  Inv X pins (List.replicate X.N.length none) H { s with heap := h', toks := tk } := by
 have cne := I.cne
 have lt : ∀ b o, X.s₀.heap.get? b = some o -> b ≠ X.env.locals := fun b o e => Nat.ne_of_lt (Nat.lt_of_lt_of_le (Heap.lt_size e) I.ok.above)
 refine ⟨I.ok, I.os, I.bare, ⟨fun b o e n hb hx => (hs.2 b (lt b o e)).trans (I.base.keep b o e n hb hx), fun b o e n hb hx => ?_, I.base.free, fun b o e hx => ?_, I.base.tups, I.base.frzs, I.base.tbls⟩, ⟨m, hn, fun j y v e1 e2 _ => ?_⟩, fun y c e => ?_, I.free, I.freeC, fun p hp => ?_, fun b u q => ?_, by simp⟩
 ·obtain ⟨sl, e1⟩ := I.base.slot b o e n hb hx
  exact ⟨sl, (hs.2 b (lt b o e)).trans e1⟩
 ·obtain ⟨o', e1⟩ := I.base.there b o e hx
  exact ⟨o', (hs.2 b (lt b o e)).trans e1⟩
 ·rw [List.getElem?_replicate] at e2
  split at e2 <;> cases e2
 ·obtain ⟨w', z⟩ := I.cell y c e
  exact ⟨w', z.sameBut hs (cne y c e)⟩
 ·obtain ⟨e, n, ne, nf, d⟩ := I.pin p hp
  exact ⟨(hs.2 p.1 ne).trans e, n, ne, nf, d⟩
 ·refine (I.hok b u q).stay (fun c w' hc z => (hs.2 c ?_).trans z) (fun _ z => z) fun _ _ z => z
  rintro rfl
  rcases hc with e | hc
  ·rw [<- e, I.free] at q; cases q
  ·rw [I.free] at hc; cases hc
section
variable {X : Cx} {k : Nat} {f : Addr} {fd : FuncData} {ps : List Str} {sp : Sp} {g T n : Str} {gp cpos epos tp hpos pos : Pos} {e : Expr} {es : List Expr} {ta : TA} {b₀ : Stmt} {suite : List Stmt} {i : Nat} {Tv : Value} {ts : Addr -> TS}
end
end L2
namespace L2
open PySem PySem.Spec PySem.W PyProof.Rows PySem.Builtin PySem.Builtin.ObjectAttr PySem.Builtin.Getset_descriptor
section
variable {prog : Program} {w : World} {A : Around} {E : Value -> Shared -> Prop} {h : Heap} {g : Array GenState} {d : Drawn} {t : Nat} {os : OsState} {a C : Addr} {o : Obj} {K : Frag}
theorem xcl_get {R : Result -> Shared -> Prop} (X : K.In h) (hx : h.get? a = some o) (hc : o.cls = .ref C) (hs : subIn K (.ref C) (.type "object") = some true) (hq : R (.ok (.ret (.ref C))) ⟨h, g, d, t, os⟩) :
  codeAny (model prog w) A (.call (.builtin "getset_descriptor.__get__") ⟨[.builtin "object.__class__", .ref a, .ref C], []⟩) R ⟨h, g, d, t, os⟩ := by
 have hT5 : (⟨h, g, d, t, os⟩ : Shared).TypeIs (.builtin "object.__class__") "getset_descriptor" := F.typeOf_object_class
 have L1 : Looks (model prog w) h (isSubtype (.ref C) (.type "object")) true := looks_subIn X hs
 refine codeAny_call_builtin KF.slot_gs.plain KF.entry_gs (KF.slot_gs.check _ _ _ _ _ _ _ _ KF.type_class (KF.args_gs _ _ _) ?_)
 have L0 : Looks (model prog w) h (typeOf (.ref a)) (.ref C) := by rw [<- hc]; exact (Looks.ld hx).andThen Looks.now
 unfold Builtin.«getset_descriptor.__get__» descrGet
 rw [dga_obj]
 refine wpAny_bind (wpAny_pure ?_)
 unfold descrGetter descrCheckInstance descrNameAndClass isInstance
 simp only [KF.owner_class]
 repeat lk
 refine ⟨Code.quiet_builtin _ (by decide +kernel), codeAny_builtin KF.entry_class ?_⟩
 unfold Builtin.«object.__class__» shownTypeOf
 repeat lk
 exact hq
theorem xcl_entry {tk : Tok} {Q : Fin -> Shared -> Prop} (X : K.In h) (hx : h.get? a = some o) (hc : o.cls = .ref C) (hs : subIn K (.ref C) (.type "object") = some true) (hf : findIn K (.ref C) "__class__" = some (some (.builtin "object.__class__"))) (hq : Q (.done (.ret (.ref C))) ⟨h, g, d, t, os⟩) :
  wpAny (model prog w) A (Builtin.«object.__getattribute__» ⟨[.ref a, .str "__class__" tk], []⟩) Q E ⟨h, g, d, t, os⟩ := by
 have hT5 : (⟨h, g, d, t, os⟩ : Shared).TypeIs (.builtin "object.__class__") "getset_descriptor" := F.typeOf_object_class
 have f5 := F.typeOf_object_class
 have f6 := F.slot_gs_get.lookup
 have f7 := F.slot_gs_set.lookup
 have L1 : Looks (model prog w) h (typeLookup (.ref C) "__class__") (some (.builtin "object.__class__")) := looks_findIn X hf
 repeat (any_goals (first | assumption | (with_reducible refine wpAny_loadPart_at hx ?_; rw [hc]) | with_reducible refine L1.at ?_ | wp_step))
 refine xcl_get X hx hc hs ?_
 repeat (any_goals (first | assumption | wp_step))
theorem xcl_check {M : Model} {nameV : Value} {Q : Unit -> Shared -> Prop} (X : K.In h) (hx : h.get? a = some o) (hc : o.cls = .ref C) (hs : subIn K (.ref C) (.type "BaseException") = some true) (hq : Q () ⟨h, g, d, t, os⟩) :
  wpAny M A (checkBuiltinCall "BaseException.__getattribute__" ⟨[.ref a, nameV], []⟩) Q E ⟨h, g, d, t, os⟩ := by
 have hk : builtinKind "BaseException.__getattribute__" = some .slot := by decide +kernel
 have hsplit : splitId "BaseException.__getattribute__" = some ("BaseException", "__getattribute__") := by decide +kernel
 have L1 : Looks M h (isSubtype (.ref C) (.type "BaseException")) true := looks_subIn X hs
 have ha := F.args_bexc_ga (.ref a) nameV
 simp only [checkBuiltinCall, hk, hsplit]
 refine wpAny_bind ?_
 unfold isInstance
 repeat (first | (with_reducible refine wpAny_loadPart_at hx ?_; rw [hc]) | with_reducible refine L1.at ?_ | wp_step)
 exact hq
theorem xcl_by {tk : Tok} {Q : Value -> Shared -> Prop} (X : K.In h) (hx : h.get? a = some o) (hc : o.cls = .ref C) (hs : subIn K (.ref C) (.type "object") = some true) (hs2 : subIn K (.ref C) (.type "BaseException") = some true)
  (hf : findIn K (.ref C) "__class__" = some (some (.builtin "object.__class__"))) (hga : findIn K (.ref C) "__getattribute__" = some (some (.builtin "BaseException.__getattribute__"))) (hna : findIn K (.ref C) "__getattr__" = some none) (hq : Q (.ref C) ⟨h, g, d, t, os⟩) :
  wpAny (model prog w) A (getAttrBy (.ref a) (.str "__class__" tk) false) Q E ⟨h, g, d, t, os⟩ := by
 have f3 := PySem.F.attrBase_ValueError.ga.bind (.ref a)
 have hx2 : (Value.builtin "BaseException.__getattribute__" == Value.builtin "object.__getattribute__") = false := by decide +kernel
 have hx1 : (onTheHeap (Value.ref C) && Value.builtin "BaseException.__getattribute__" == Value.builtin "object.__getattribute__") = false := by rw [hx2]; rfl
 have L1 : Looks (model prog w) h (typeLookup (.ref C) "__getattribute__") (some (.builtin "BaseException.__getattribute__")) := looks_findIn X hga
 have L2 : Looks (model prog w) h (typeLookup (.ref C) "__getattr__") none := looks_findIn X hna
 repeat (any_goals (first | assumption | (with_reducible refine wpAny_loadPart_at hx ?_; rw [hc]) | with_reducible refine L1.at ?_ | with_reducible refine L2.at ?_ | wp_step))
 refine codeAny_call_builtin PySem.F.attrBase_ValueError.ga.plain F.entry_bexc_ga (xcl_check X hx hc hs2 (xcl_entry X hx hc hs hf ?_))
 repeat (any_goals (first | assumption | wp_step))
theorem xcl_attr {Q : Option Value -> Shared -> Prop} (X : K.In h) (hx : h.get? a = some o) (hc : o.cls = .ref C) (hs : subIn K (.ref C) (.type "object") = some true) (hs2 : subIn K (.ref C) (.type "BaseException") = some true)
  (hf : findIn K (.ref C) "__class__" = some (some (.builtin "object.__class__"))) (hga : findIn K (.ref C) "__getattribute__" = some (some (.builtin "BaseException.__getattribute__"))) (hna : findIn K (.ref C) "__getattr__" = some none) (hq : Q (some (.ref C)) ⟨h, g, d, t + 1, os⟩) :
  wpAny (model prog w) A (getAttr? (.ref a) "__class__") Q E ⟨h, g, d, t, os⟩ := by
 unfold getAttr? getAttrBy?
 repeat (any_goals (first | assumption | with_reducible apply xcl_by X hx hc hs hs2 hf hga hna | wp_step))
end
end L2
namespace L2
open PySem PySem.Spec PySem.W PyProof.Rows
structure XCls (K : Frag) (C : Addr) : Prop where
 obj : ∃ c d cd sl, K.lookup C = some ⟨c, d, .cls cd, sl⟩
 sO : subIn K (.ref C) (.type "object") = some true
 sB : subIn K (.ref C) (.type "BaseException") = some true
 fc : findIn K (.ref C) "__class__" = some (some (.builtin "object.__class__"))
 fg : findIn K (.ref C) "__getattribute__" = some (some (.builtin "BaseException.__getattribute__"))
 fn : findIn K (.ref C) "__getattr__" = some none
theorem kitx_exc {K : Frag} {a C : Addr} (c : XCls K C) : KitX K (.ref a) (.ref C) (fun h => ∃ o, h.get? a = some o /\ o.cls = .ref C) where
 ty := fun _ _ _ ⟨o, hx, hc⟩ => by rw [<- hc]; exact (Looks.ld hx).andThen Looks.now
 it := fun _ _ X _ => by
  obtain ⟨c', d', cd', sl', ho⟩ := c.obj
  intro A' Q' E' s' k q
  unfold isType loadHead
  exact wpAny_bind (wpAny_loadPart (k _ _ (X _ _ ho)) (wpAny_pure q))
 ne := fun h tp dd its n sl X htp => by
  obtain ⟨c', d', cd', sl', ho⟩ := c.obj
  refine Bool.eq_false_iff.mpr fun q => ?_
  have e : C = tp := Value.ref.inj (beq_iff_eq.mp q)
  subst e
  have z := (X _ _ ho).symm.trans htp
  cases z
 ca := fun {_ _ _ _ _ s} X ⟨o, hx, hc⟩ k => by
  obtain ⟨h, g, d, t, os⟩ := s
  exact xcl_attr X hx hc c.sO c.sB c.fc c.fg c.fn k
noncomputable def isiX (K : Frag) : List V -> Hp -> VK -> Prop := fun vs H Q => ∃ a C cv b, vs = [.ref a, cv] /\ H a = some (ExO a C) /\ XCls K C /\ Q (.bl b) H /\
 ((∃ c, (∀ u, RelV cv u -> u = c) /\ kitOne K (.ref C) c = some b) \/ ∃ tp cvs, cv = .ref tp /\ H tp = some (.tup cvs) /\ ∀ its, Vals cvs its -> kitAny K (.ref C) its = some b)
theorem call_isiX {X : Cx} : CallR X (.builtin "isinstance") (isiX X.K) := by
 rintro pins s σ H vs us Q I r ⟨a, C, cv, b, rfl, ha, hc, q, h⟩
 have ⟨u1, u2, e, r1, r2⟩ : ∃ u1 u2, us = [u1, u2] /\ RelV (.ref a) u1 /\ RelV cv u2 := by
  cases r with
  | cons r1 r' => cases r' with
    | cons r2 r'' => cases r'' with
      | nil => exact ⟨_, _, rfl, r1, r2⟩
 subst e
 cases (show u1 = Value.ref a from r1)
 have hx : ∃ o, s.heap.get? a = some o /\ o.cls = .ref C := (I.hok a _ ha).1.1
 rcases h with ⟨c, hcv, e⟩ | ⟨tp, cvs, rfl, ht, e⟩
 ·cases hcv u2 r2
  exact kia_one (kitx_exc hc) I.kIn hx e (fun z => nomatch z) fun tk => ⟨.bl b, H, I.tok tk, rfl, q⟩
 ·cases (show u2 = Value.ref tp from r2)
  obtain ⟨_, its, rv, o, ho, ho2, n, ho3⟩ := (show ObjOk X.prog X.w H s.heap tp (.tup cvs) from I.hok tp _ ht)
  obtain ⟨oc, od, odt, osl⟩ := o
  cases ho2
  cases ho3
  exact kia_tup (kitx_exc hc) I.kIn hx ho (e its rv) (fun z => nomatch z) fun tk => ⟨.bl b, H, I.tok tk, rfl, q⟩
structure RoomX (k : Nat) (A : Around) : Prop where
 dp : A.depth + 3 * k + 5 < recursionLimit
 un : A.units + 16 * k + 200 < cLine
theorem Room.markX {k : Nat} {A : Around} (r : Room k A) (v : Option Value) : RoomX k (A.mark v) := ⟨r.dp, r.un⟩
theorem RoomX.mono {j k : Nat} {A : Around} (r : RoomX k A) (h : j <= k) : RoomX j A := ⟨by have := r.dp; lia, by have := r.un; lia⟩
theorem RoomX.deeper {k : Nat} {A : Around} (r : RoomX (k + 1) A) (env : Env) : RoomX k (A.deeper env) :=
 ⟨by have := r.dp; show A.depth + 1 + 3 * k + 5 < _; lia, by have := r.un; show A.units + 3 + 16 * k + 200 < _; lia⟩
noncomputable def cxX (P : Program) (w : World) (K : Frag) (mg : Str -> Option Value) (base : Heap) (N : List Str) (qual : Str) (scope : Scope) (f : Addr) (cd : Value) (A : Around) (outer : List Env) (s : Shared) (H : Hp) : Cx :=
 { cxOf CX0 P w K mg base N qual scope f cd A outer s H E0 with calm := false, xe := fun _ _ => False }
section
variable {P : Program} {w : World} {K : Frag} {mg : Str -> Option Value} {base : Heap}
end
end L2
namespace L2
open PySem PySem.Spec PySem.W PyProof.Rows
noncomputable def DnR (P : Program) (w : World) (K : Frag) (mg : Str -> Option Value) (base : Heap) (k : Nat) (x : Str) (ps : List Str) (sp : Sp) : Prop :=
 ∃ f fd, FnOk P w K mg base (CXr P w) k f fd ps sp /\ mg x = some (.ref f) /\ keepIn K (.ref f) = true /\ Binds K fd ps []
section
variable {P : Program} {w : World} {K : Frag} {mg : Str -> Option Value} {base : Heap} {x : Str} {st : Stmt} {N ps : List Str} {k : Nat} {sp : Sp}
theorem Df.okR (F : Df K mg x st ps) (S : FnScope N ps (defScope st)) (len : ∀ vs H Q E, sp vs H Q E -> vs.length = ps.length)
  (hbody : ∀ (f : Addr) (cdv : Value) (A : Around) (outer : List Env) (s : Shared) (H : Hp) (vs : List V) (Q : VK) (E : XK), Room k (A.deeper (envOfC x (defScope st) s.heap.objs.size f cdv)) -> sp vs H Q E ->
   ∃ t, PSs (cxOf (CXr P w) P w K mg base N x (defScope st) f cdv A outer s H E) (defBody st) t /\ t { nx := fun _ H' => Q .non H', rt := Q } (start N vs) H) : DnR P w K mg base (k + 1) x ps sp := by
 obtain ⟨f, fd, F, m, b⟩ := F
 have kp := F.kp
 obtain ⟨oc, od, kV, doc, pm, an, cdv, ct, osl, rfl, lk, hcd⟩ := F.ex
 exact ⟨f, _, fn_of lk hcd S len (hbody f cdv), m, kp, b⟩
end
set_option tactic.hygienic true in
theorem exc_of {K : Frag} {mg : Str -> Option Value} {x : Str} {C : Addr} {bm : List Value} {newId : String} (hm : mg x = some (.ref C)) (q : excIn K C bm newId = true) : ∃ tl, ExC K mg x C bm tl newId := by
 unfold excIn at q
 split at q
 ·rename_i dd cd sl ho
  split at q
  ·rename_i C' tl k0 k1 k2 k3 n k5 hr hs
   simp only [Bool.and_eq_true, beq_iff_eq, Bool.not_eq_true'] at q
   obtain ⟨⟨⟨⟨⟨e1, e2⟩, hdel⟩, ht⟩, hok⟩, hni⟩ := q
   subst e1 e2
   obtain ⟨nm, bs, mro, ns, qn, hd, sn, sub, ab, col, del⟩ := cd
   dsimp only at hr hdel hok hni
   subst hr hdel
   have hsl : sl = #[k0, k1, k2, k3, some (.builtin n), k5] := by
    obtain ⟨l⟩ := sl
    simp only at hs
    rw [hs]
   subst hsl
   have hno : ∃ c d es ep sl2, K.lookup ns = some ⟨c, d, .dict es ep, sl2⟩ /\ (es.all fun e => match e.key with | .str _ _ => true | _ => false) = true := by
    unfold nsOkIn at hok
    split at hok
    ·rename_i ho2
     exact ⟨_, _, _, _, _, ho2, hok⟩
    ·cases hok
   obtain ⟨c2, d2, es2, ep2, sl2, hl2, hall⟩ := hno
   refine ⟨tl, hm, ns, nm, qn, bs, hd, sn, sub, ab, col, dd, k0, k1, k2, k3, k5, nsFind es2, ?_, fun h X => ⟨X _ _ ho, ?_, tail_of_in X ht⟩⟩
   ·unfold nsIn at hni
    rw [hl2] at hni
    dsimp only at hni
    split at hni
    ·cases hni
    ·rename_i he
     unfold nsFind findBy
     rw [<- Array.find?_toList, he]
     rfl
   ·have hns : h.Ns ns (h.nsMap ns) := .of_isNs (isNs_of_in X hok)
    obtain ⟨o, es, ep, h1, h2, h3, h4⟩ := hns
    rw [X _ _ hl2] at h1
    cases h1
    cases h2
    exact ⟨_, _, _, X _ _ hl2, rfl, h3, fun _ => rfl⟩
  ·cases q
 ·cases q
end L2
namespace L2
open PySem PySem.Spec PySem.W PyProof.Rows
noncomputable def isRx : D -> Option Str
 | .dict [(.none, .str c)] => some c
 | _ => none
theorem isRx_some {d : D} {c : Str} (h : isRx d = some c) : d = rxD c := by
 unfold isRx at h
 split at h
 ·cases h; rfl
 ·cases h
theorem keys_no {d : D} {r : List (D × D)} {kvs : List (List Key × V)} {d' : D} (k : ((d, d') :: r).map (·.1) = kvs.map (fun p => PyData.tuple (p.1.map keyD))) (h : ∀ l, d ≠ .tuple l) : False := by
 cases kvs with
 | nil => cases k
 | cons p q => exact h _ (List.cons.inj k).1
theorem no_rx {K : Frag} {H : Hp} {v : V} {c : Str} (h : HD K H v (rxD c)) : False := by
 unfold rxD at h
 cases h with
 | dct _ k _ => exact keys_no k fun _ z => nomatch z
noncomputable def orRx (d : D) (r : Res) : Res := match isRx d with
 | some _ => .rt d
 | none => r
theorem orRx_none {d : D} {r : Res} (h : isRx d = none) : orRx d r = r := by unfold orRx; rw [h]
theorem orRx_rx {c : Str} {r : Res} : orRx (rxD c) r = .rt (rxD c) := rfl
noncomputable def xkOf (mg : Str -> Option Value) (E : XK) : Str -> Hp -> Prop := fun c H => ∀ C, mg c = some (.ref C) -> E (.ref C) none H
noncomputable def gRaise (c : Str) : DS -> Option Res := fun _ => some (.rt (rxD c))
noncomputable def spR (K : Frag) (mg : Str -> Option Value) (n : Nat) (G : List D -> Option D) : Sp := fun vs H Q E => vs.length = n /\ ∃ A ds d, Ls A H /\ HDs K (wo H A) vs ds /\ G ds = some d /\
 (∀ v H', Same H H' -> HD K (wo H' A) v d -> Q v H') /\ ∀ c H', d = rxD c -> Same H H' -> xkOf mg E c H'
section
variable {P : Program} {w : World} {K : Frag} {mg : Str -> Option Value} {base : Heap} {N ps : List Str} {x qual : Str} {st : Stmt} {scope : Scope} {f : Addr} {cd : Value} {A : Around} {outer : List Env} {s : Shared} {H : Hp} {E : XK} {O : List Nat} {k : Nat}
theorem pd_raise {c : Str} {C : Addr} {b : Bool} {bm tl bmN : List Value} {newId nid initId inN B Bn : String} {e₀ : Expr} {v : V} {np cpos pos : Pos} (hC : ExC K mg c C bm tl newId) (Fn : ExcBaseFacts Bn newId inN bmN) (hBn : bm.contains (.type Bn) = true) (FB : ExcBaseFacts B nid initId bm)
  (ha : PE (cxOf (CXr P w) P w K mg base N qual scope f cd A outer s H E) e₀ (tC v)) (hg : Gl (cxOf (CXr P w) P w K mg base N qual scope f cd A outer s H E) c := by rfl)
  (he : starEach [e₀] (envOfC qual scope s.heap.objs.size f cd) = [(false, eval e₀ (envOfC qual scope s.heap.objs.size f cd))] := by rfl) (he0 : starEach ([] : List Expr) (envOfC qual scope s.heap.objs.size f cd) = [] := by rfl) (hd : (c == ("__debug__" : Str)) = false := by decide) :
  PS (cxOf (CXr P w) P w K mg base N qual scope f cd A outer s H E) (.Raise (some (.Call (.Name c np) [e₀] [] cpos)) none pos) (tS K O (b, xkOf mg E) (gRaise c)) :=
 (ps_raise hC Fn hBn FB (pa_cons ha pa_nil (by show starEach [e₀] (envOfC qual scope s.heap.objs.size f cd) = (false, eval e₀ (envOfC qual scope s.heap.objs.size f cd)) :: starEach [] (envOfC qual scope s.heap.objs.size f cd); rw [he, he0])) hg (by rw [he, he0]) (by rw [he0]; rfl) hd).mono fun D σ H1 hh => hh.e fun H0 U A0 δ r R F ed Q => by
  cases ed
  exact ⟨by show 1 <= sizeLine; decide, Q.2 c H1 rfl F.same C hC.bound⟩
theorem pd_defR (O : List Nat) (g : DS -> Option Res) (F : Df K mg x st ps) (S : FnScope N ps (defScope st))
  (body : ∀ (f : Addr) (cdv : Value) (A : Around) (outer : List Env) (s : Shared) (H : Hp) (E : XK), Room k (A.deeper (envOfC x (defScope st) s.heap.objs.size f cdv)) -> PSs (cxOf (CXr P w) P w K mg base N x (defScope st) f cdv A outer s H E) (defBody st) (tS K O (false, xkOf mg E) g))
  (hO : ∀ i ∈ O, ps.length <= i := by decide) {n m : Nat} (hN : N.length = n := by rfl) (hP : ps.length = m := by rfl) : DnR P w K mg base (k + 1) x ps (spR K mg m (gDef n g)) := by
 subst hN hP
 refine F.okR S (fun vs H Q E h => h.1) (fun f cdv A outer s H vs Q E hr h => ⟨_, body f cdv A outer s H E hr, ?_⟩)
 obtain ⟨hn, A', ds, d, al, hd, e, q, qx⟩ := h
 obtain ⟨r, e1, e2⟩ := bind1 e
 refine ⟨H, [], A', _, r, Rel.start al hd (fun i hi => by have := hO i hi; rw [<- hd.len, hn]; exact this), Fx.start al, e1, ?_⟩
 cases r with
 | nx δ => cases e2; exact fun U σ H' R F' => q .non H' F'.same .non
 | rt d => cases e2; exact ⟨fun v H' h => by unfold RetR at h; rw [if_neg Bool.false_ne_true] at h; exact q v H' h.1 h.2, fun c H' e s => qx c H' e s⟩
 | bk _ => cases e2
 | ct _ => cases e2
end
noncomputable def gSetR (i : Nat) (g : DS -> Option D) : DS -> Option Res := fun δ => (g δ).bind fun d => some (orRx d (.nx (δ.set i (some d))))
section
variable {X : Cx} {O : List Nat} {E : XK} {k kk n i : Nat} {x : Str} {ps : List Str} {p pos : Pos} {e : Expr} {es : List Expr} {gr : DS -> Option (List D)} {G : List D -> Option D} {st : Stmt} {b : Bool}
theorem pe_callR (F : DnR X.prog X.w X.K X.mg X.base k x ps (spR X.K X.mg n G)) (hr : Room kk X.A) (hk : k <= kk) (hx : Passes (CXr X.prog X.w) X E) (ha : PA X (e :: es) (tAs X.K O gr)) (hg : Gl X x := by rfl)
  (hdb : (x == ("__debug__" : Str)) = false := by decide) (he : starEach (e :: es) X.env = (false, eval e X.env) :: starEach es X.env := by rfl) (hpl : (backTo pos (starEach es X.env)).any (·.1) = false := by rfl) :
  PE X (.Call (.Name x p) (e :: es) [] pos) (tCall (spR X.K X.mg n G) [] E (tAs X.K O gr)) := by
 obtain ⟨f, fd, F, m, kp, b⟩ := F
 exact pe_call F (hr.mono hk) hg m kp b .nil hx ha hdb he hpl
set_option tactic.hygienic true in
theorem tCallR {K : Frag} {mg : Str -> Option Value} {σ : St} {δ : DS} {H : Hp} {Q : VK} {U A0 : List Addr} {d : D} (R : Rel K O U A0 σ δ H) (e : gCall G n gr δ = some d) (qn : ∀ v H', Same H H' -> HD K (wo H' (U ++ A0)) v d -> Q v H')
  (qx : ∀ c H', d = rxD c -> Same H H' -> xkOf mg E c H') : tCall (spR K mg n G) [] E (tAs K O gr) σ H Q := by
 obtain ⟨ds, e1, e2⟩ := bind1 e
 split at e2
 ·rename_i hn
  refine ⟨U, A0, δ, ds, R, e1, fun vs H' s h => ?_⟩
  show spR K mg n G (vs ++ []) H' Q E
  rw [List.append_nil]
  exact ⟨by rw [h.len]; exact hn, U ++ A0, ds, d, (R.same s).al, h, e2, fun v H2 s2 h2 => qn v H2 (s.trans s2) h2, fun c H2 ed s2 => qx c H2 ed (s.trans s2)⟩
 ·cases e2
theorem pd_setR (h : PS X st (tAsg (tCall (spR X.K X.mg n G) [] E (tAs X.K O gr)) (gName i))) (hi : i ∉ O := by decide) : PS X st (tS X.K O (b, xkOf X.mg E) (gSetR i (gCall G n gr))) := h.mono fun D σ H hh => hh.e fun H0 U A0 δ r R F ed P => by
 obtain ⟨d, e1, e2⟩ := bind1 ed
 have e3 := Option.some.inj e2
 refine tCallR R e1 (fun v H' s hv => ?_) (fun c H' hd s => ?_)
 ·cases hx : isRx d with
  | some c => rw [isRx_some hx] at hv; exact (no_rx hv).elim
  | none =>
    rw [orRx_none hx] at e3
    subst e3
    exact P U _ H' ((R.same s).set hi hv) (F.grow s)
 ·subst hd
  rw [orRx_rx] at e3
  subst e3
  exact P.2 c H' rfl (F.same.trans s)
end
noncomputable abbrev Cx.tr (X : Cx) (pins0 : List (Addr × Obj)) (E : XK) : Cx := { X with pn := X.pn ++ pins0, xe := fun v s1 => ∃ σ H0 s0, Inv X pins0 σ H0 s0 /\ CXr X.prog X.w X.stack H0 s0 E v s1 }
section
variable {X : Cx} {pins pins0 : List (Addr × Obj)} {σ : St} {H : Hp} {s : Shared} {E : XK}
theorem Cx.Ok.tr (ok : X.Ok) : (X.tr pins0 E).Ok :=
 ⟨ok.mod, ok.kind, ok.glob, ok.blt, ok.above, ok.inj, ok.has, ok.cab, ok.hd, ok.frames, ok.stk, ok.exf, ok.bs, ok.bsz, ok.noex, ok.exfs, ok.funs, ok.frf⟩
theorem Cx.Ok.untr (ok : (X.tr pins0 E).Ok) : X.Ok :=
 ⟨ok.mod, ok.kind, ok.glob, ok.blt, ok.above, ok.inj, ok.has, ok.cab, ok.hd, ok.frames, ok.stk, ok.exf, ok.bs, ok.bsz, ok.noex, ok.exfs, ok.funs, ok.frf⟩
theorem Inv.tr (I : Inv X pins0 σ H s) : Inv (X.tr pins0 E) [] σ H s := ⟨I.ok.tr, I.os, I.bare, I.base, I.loc, I.cell, I.free, I.freeC, fun p hp => I.pin p (by rw [List.append_nil] at hp; exact hp), I.hok, I.len⟩
theorem Inv.untr (I : Inv (X.tr pins0 E) pins σ H s) : Inv X pins0 σ H s := ⟨I.ok.untr, I.os, I.bare, I.base, I.loc, I.cell, I.free, I.freeC, fun p hp => I.pin p (List.mem_append_left _ hp), I.hok, I.len⟩
theorem pass_tr : Passes (CXr X.prog X.w) (X.tr pins0 E) E := fun _ σ H s _ _ I h => ⟨σ, H, s, I.untr, h⟩
end
noncomputable abbrev exD (a : Addr) (c : Str) : D := .dict [(.list [], .tuple [.int (a : Nat), .str c])]
noncomputable def gTry (gb : DS -> Option Res) (hand : Str -> Option D) : DS -> Option Res := fun δ => (gb δ).bind fun r => match r with
 | .rt d => (match isRx d with
   | some c => (hand c).bind fun d' => some (.rt d')
   | none => some (.rt d))
 | r => some r
theorem Rel.caught {K : Frag} {O : List Nat} {A0 : List Addr} {σ : St} {H1 : Hp} {n i : Nat} {a C : Addr} {c : Str} (hl : σ.length = n) (hi : i < n) (hO : i ∉ O) (al : Ls A0 H1) (ta : H1 a = none) (hns : nsIn K mainGlobals c = some (some (.ref C))) :
  Rel K O [] A0 (σ.set i (some (.ref a))) ((List.replicate n none).set i (some (exD a c))) (upd H1 a (ExO a C)) := by
 have get : ∀ (j : Nat) d, ((List.replicate n (none : Option D)).set i (some (exD a c)))[j]? = some (some d) -> j = i /\ d = exD a c := fun j d q => by
  by_cases hj : i = j
  ·subst hj
   rw [List.getElem?_set_self (by rw [List.length_replicate]; exact hi)] at q
   cases q
   exact ⟨rfl, rfl⟩
  ·rw [List.getElem?_set_ne hj] at q
   have := List.mem_of_getElem? q
   rw [List.mem_replicate] at this
   exact absurd this.2 (fun z => nomatch z)
 exact {
  len := by rw [List.length_set, List.length_set, List.length_replicate]; exact hl
  fz := fun j d _ q => by
   obtain ⟨rfl, rfl⟩ := get j d q
   exact ⟨.ref a, List.getElem?_set_self (by rw [hl]; exact hi), .exc hns (by show wo (upd H1 a (ExO a C)) A0 a = _; rw [wo_out (fun z => al.free ta z)]; exact upd_same)⟩
  ow := fun j d hj q => absurd hj (by rw [(get j d q).1]; exact hO)
  inj := fun j k d e l hj _ _ q _ _ _ => absurd hj (by rw [(get j d q).1]; exact hO)
  al := al.same (same_new ta _) }
section
variable {X : Cx} {O : List Nat} {T n : Str} {Tv : Value} {tp hpos pos : Pos} {body suite : List Stmt} {b₀ : Stmt} {gb : DS -> Option Res} {gs : Addr -> DS -> Option Res} {hand : Str -> Option D} {xk : Str -> Hp -> Prop} {i : Nat}
theorem pd_try (hb : ∀ pins0 E, PSs (X.tr pins0 E) body (tS X.K O (false, xkOf X.mg E) gb)) (hs : ∀ a, PSs (X.inX a) (b₀ :: suite) (tS X.K O (false, fun _ _ => True) (gs a)))
  (hcl : ∀ c d, hand c = some d -> ∃ C, nsIn X.K mainGlobals c = some (some (.ref C)) /\ X.mg c = some (.ref C) /\ exmOne X.K (.ref C) Tv = some true)
  (hh : ∀ a c d, hand c = some d -> gs a ((List.replicate X.N.length none).set i (some (exD a c))) = some (.rt d)) (hT : X.mg T = some Tv) (hN : X.N.Nodup) (hi : X.N[i]? = some n := by rfl) (hiO : i ∉ O := by decide)
  (hl : X.env.scope.names.lookup n = some .local := by rfl) (hgT : Gl X T := by rfl) (hst : X.stack = X.env :: X.outer := by rfl) (hfr : X.env.frame = some X.env.locals := by rfl) (hdT : (T == ("__debug__" : Str)) = false := by decide) :
  PS X (.Try body [.ExceptHandler (some (.Name T tp)) (some n) (b₀ :: suite) hpos] [] [] pos) (tS X.K O (false, xk) (gTry gb hand)) := by
 rintro pins s σ H D I ⟨H00, U, A0, δ, r, R, F, ed, P⟩
 obtain ⟨r0, e1, e2⟩ := bind1 ed
 refine wpAny_Try_except ?_
 refine wpAny_mono (hb pins (fun cv _ H2 => ∃ c C, r0 = .rt (rxD c) /\ cv = .ref C /\ X.mg c = some (.ref C) /\ Same H00 H2) [] s σ H D I.tr ⟨H00, U, A0, δ, r0, R, F, e1, ?_⟩) (fun fl s1 hq => ?_) ?_
 ·cases r0 with
  | nx δ' => cases e2; exact P
  | bk δ' => cases e2; exact P
  | ct δ' => cases e2; exact P
  | rt d =>
    cases hx : isRx d with
    | none =>
      simp only [hx] at e2
      cases e2
      exact ⟨P.1, fun c H' hd s => by subst hd; cases hx⟩
    | some c =>
      have hd := isRx_some hx
      subst hd
      refine ⟨fun v H' h => ?_, fun c' H' hd s C hC => ⟨c', C, by rw [hd], rfl, hC, s⟩⟩
      unfold RetR at h
      rw [if_neg Bool.false_ne_true] at h
      exact (no_rx h.2).elim
 ·cases fl with
  | next => obtain ⟨σ', H', I', q⟩ := hq; exact wpAny_execs_nil ⟨σ', H', I'.untr, q⟩
  | brk => obtain ⟨σ', H', I', q⟩ := hq; exact ⟨σ', H', I'.untr, q⟩
  | cont => obtain ⟨σ', H', I', q⟩ := hq; exact ⟨σ', H', I'.untr, q⟩
  | ret u => obtain ⟨v, σ', H', I', rv, q⟩ := hq; exact ⟨v, σ', H', I'.untr, rv, q⟩
 rintro v s1 ⟨σ0, H0, s0, I0, a, t, C, B, H1, rfl, os, bare, un, hok, na, ta, cov, fly, nc0, c, C', er, hC, hm, hsame⟩
 cases hC
 subst er
 have e3 : ((hand c).bind fun d' => some (Res.rt d')) = some r := e2
 obtain ⟨d, hd, hr⟩ := bind1 e3
 cases hr
 obtain ⟨C2, hns, hm2, hex⟩ := hcl c d hd
 rw [hm] at hm2
 cases hm2
 have fr := fly.2.2.1
 have st := fly.1
 have fly' : Heap.FlyingW B (X.env :: X.outer) a (.ref C) (.ref t) s1.heap := by rw [<- hst]; exact fly
 have nf : ∀ b ∈ frs X.stack, H1 b = none := fun b hb => by
  obtain ⟨_, o, ho, _⟩ := I0.stack.mem hb
  exact un.free b o ho (I0.stkFree b hb) fun z => nomatch z
 have again : ∀ {h2 : Heap}, Heap.FlyingW B (X.env :: X.outer) a (.ref C) (.ref t) h2 -> s1.heap.UpToSlots h2 -> Inv X pins σ0 H1 { s1 with heap := h2 } := fun {h2} fly2 up2 =>
  I0.call' (ch := []) os (un_fly un cov st fly2.1 up2 fr) (hok_fly hok cov st fly2.1 nf) bare (fun b z => nomatch z)
 refine looks_onX (I0.ok.frames.trans (congrArg some hst)) hfr fly' nc0 fun h4 held nc4 up4 => ?_
 refine landsX held nc4 fun h5 fly5 nc5 up5 => ?_
 have I5 := again fly5 (up4.trans up5)
 have LT : Looks (model X.prog X.w) h5 (typeOf (.ref a)) (.ref C) := by
  obtain ⟨ob, hob, hc⟩ := fly5.there
  rw [<- hc]
  exact (Looks.ld hob).andThen Looks.now
 refine wpAny_handleBy_cons (codeAny_handlers_test (ld_glob (I5.inX a) hgT hT ?_ hdT)) (by intro q; cases q)
 refine (exm_one (M := model X.prog X.w) I5.kIn LT hex).here ?_
 refine codeAny_handlers_suite_as (lands_againX fly5 nc5 fun h6 fly6 nc6 up6 => ?_)
 have I6 := again fly6 ((up4.trans up5).trans up6)
 have hnew : ∃ o, h6.get? a = some o /\ o.cls = .ref C := fly6.there
 have I6t := I6.trackX (o := ExO a C) I0 na ta ⟨⟨hnew, nc6⟩, let ⟨o, q, _⟩ := hnew; ⟨o, q⟩, fun h1 h2 ⟨⟨o, q, c⟩, ⟨o2, fs, q2, c2⟩⟩ kk => ⟨⟨o, kk o q, c⟩, ⟨o2, fs, kk o2 q2, c2⟩⟩⟩
 refine store_ok (X := X.inX a) (v := .ref a) (I6t.inX a) hN hi (.inl hl) rfl (fun s7 I7 => ?_) (.inr hl)
 have hin : i < X.N.length := (List.getElem?_eq_some_iff.mp hi).1
 refine wpAny_mono (hs a pins s7 _ _ { nx := fun _ _ => False, rt := D.rt } I7 ⟨H00, [], A0, _, .rt d, Rel.caught I0.len hin hiO (F.old.same hsame) ta hns, ⟨hsame.trans (same_new ta _), fun _ z => (by simp at z), F.old⟩, hh a c d hd, ⟨fun v H' h => P.1 v H' h, fun _ _ _ _ => trivial⟩⟩) (fun fl s8 hq => ?_) fun _ _ z => z.elim
 cases fl with
 | ret u =>
   obtain ⟨v, σ', H', J, rv, q⟩ := hq
   obtain ⟨m, hn, _⟩ := id J.loc
   exact wpAny_nameGoes hl hn (by rw [I0.ok.kind]; rfl) fun h9 m' hn' hs' => ⟨v, _, H', (J.outX I0.ok).forget hn' hs', rv, q⟩
 | next => obtain ⟨_, _, _, q⟩ := hq; exact q.elim
 | brk => obtain ⟨_, _, _, q⟩ := hq; exact q.elim
 | cont => obtain ⟨_, _, _, q⟩ := hq; exact q.elim
end
noncomputable def isX (c T : Str) : Bool := decide (c = T) || decide (T = "ValueError") || decide (T = "LotError")
noncomputable def exP : D -> Option (Int × Str)
 | .dict (p :: _) => (match p.1 with
   | .list _ => (match p.2 with
     | .tuple (.int a :: .str c :: _) => some (a, c)
     | _ => none)
   | _ => none)
 | _ => none
noncomputable def gIsiX (cs : List Str) (T : Str) (g : DS -> Option D) : DS -> Option D := fun δ => (g δ).bind fun d => (exP d).bind fun y => if y.2 ∈ cs then some (.bool (isX y.2 T)) else none
noncomputable def ClT (K : Frag) (cs : List Str) (T : Str) (Tv : Value) : Prop := ∀ c ∈ cs, ∀ C, nsIn K mainGlobals c = some (some (.ref C)) -> XCls K C /\ kitOne K (.ref C) Tv = some (isX c T)
theorem exP_dct {kds : List (D × D)} {kvs : List (List Key × V)} {y : Int × Str} (k : kds.map (·.1) = kvs.map (fun p => PyData.tuple (p.1.map keyD))) (e : exP (.dict kds) = some y) : False := by
 cases kds with
 | nil => cases e
 | cons p r =>
   obtain ⟨d, d'⟩ := p
   refine keys_no k fun l z => ?_
   subst z
   cases e
theorem ShD.excP {K : Frag} {A : List Addr} {H : Hp} {v : V} {d : D} {y : Int × Str} (h : ShD K A H v d) (e : exP d = some y) : ∃ a C : Addr, y.1 = (a : Nat) /\ v = .ref a /\ nsIn K mainGlobals y.2 = some (some (.ref C)) /\ H a = some (ExO a C) := by
 rcases h with h | ⟨l, o, rfl, e', q⟩
 ·cases h with
  | dct _ k _ => exact (exP_dct k e).elim
  | exc k h => cases e; exact ⟨_, _, rfl, rfl, k, (wo_some h).2⟩
  | _ => cases e
 ·cases q with
  | dct k _ => exact (exP_dct k e).elim
  | lst _ => cases e
section
variable {X : Cx} {O : List Nat} {e : Expr} {ga : DS -> Option D} {pos p p2 : Pos} {T : Str} {Tv : Value} {cv : V}
set_option tactic.hygienic true in
theorem pd_isiX (cs : List Str) (hB : X.mg "isinstance" = none) (ha : PE X e (tSh X.K O ga)) (ht : PE X (.Name T p2) (tC cv)) (hcv : ∀ u, RelV cv u -> u = Tv) (hT : ClT X.K cs T Tv) (hg : Gl X "isinstance" := by rfl)
  (he : starEach [e, .Name T p2] X.env = (false, eval e X.env) :: starEach [.Name T p2] X.env := by rfl) (he2 : starEach [.Name T p2] X.env = (false, eval (.Name T p2) X.env) :: starEach [] X.env := by rfl) (hpl : (backTo pos (starEach [.Name T p2] X.env)).any (·.1) = false := by rfl) :
  PE X (.Call (.Name "isinstance" p) [e, .Name T p2] [] pos) (tE X.K O (gIsiX cs T ga)) :=
 (pe_callB call_isiX hg hB bt_isinstance (pa_cons ha (pa_cons ht pa_nil he2) he) (by decide) (by decide) he hpl).mono fun σ H Q hh => hh.e fun U A0 δ d R ed q => by
  obtain ⟨x, e1, e2⟩ := bind1 ed
  obtain ⟨y, e3, e4⟩ := bind1 e2
  split at e4
  ·rename_i hz
   cases e4
   refine ⟨U, A0, δ, _, R, e1, fun v H' s h => ?_⟩
   obtain ⟨a, C, _, rfl, hns, hH⟩ := h.excP e3
   obtain ⟨xc, kt⟩ := hT _ hz C hns
   exact ⟨a, C, cv, _, rfl, hH, xc, q _ H' s (.bl _), .inl ⟨Tv, hcv, kt⟩⟩
  ·cases e4
end
noncomputable def hxG (x : Addr) (X : Cx) : Prop := X.A.handled = some (.ref x)
noncomputable def Itrx (x : Addr) (lo : Int) (n : Nat) : It := ⟨fun i _ => i < n, fun i H v H' => H' = H /\ v = .int (lo + i), fun i H => n <= i /\ ∃ C, H x = some (ExO x C)⟩
theorem turn_rangeX {P : Program} {w : World} {K : Frag} {tg : Expr} (x it : Addr) (lo : Int) (n : Nat) : TurnG (hxG x) P w K tg (Itrx x lo n) [it] it (fun i h => IsRangeIter h it (lo + (i : Nat) * 1) ((n : Int) - (i : Nat)) 1) where
 mem := by simp
 obj := fun i h st b hb => by
  have e : b = it := by simpa using hb
  subst e
  exact ⟨_, st, fun v z => by
   have z' : Data.fields _ = Data.cell v := z
   cases z'⟩
 keep := fun i h h' st k => k it (by simp) _ st
 item := by
  intro X hP hw hK hc i pins s σ H E I hf st hg
  subst hP hw hK
  obtain ⟨f0, f1, f2, f3, f4, f5⟩ := hf it (by simp)
  have hg' : i < n := hg
  refine wpAny_pyNext_range_item st (by lia) fun h' hit' hs' => ?_
  have st' : IsRangeIter h' it (lo + ((i + 1 : Nat) : Int) * 1) ((n : Int) - ((i + 1 : Nat) : Int)) 1 := by
   have e1 : lo + ((i + 1 : Nat) : Int) * 1 = lo + (i : Int) * 1 + 1 := by push_cast; lia
   have e2 : (n : Int) - ((i + 1 : Nat) : Int) = (n : Int) - (i : Int) - 1 := by push_cast; lia
   rw [e1, e2]; exact hit'
  have I1 : Inv X pins σ H { s with heap := h', toks := s.toks + 1 } := I.turned (fun b o hb e => hs'.extBut b o hb e) f0 f1 f3 f4 f5
  refine ⟨_, rfl, go_of (s := { s with heap := h', toks := s.toks + 1 }) (n := "range_iterator") st' rfl rfl (by decide) ⟨.int (lo + i), H, I1, ⟨s.toks, ?_⟩, ⟨rfl, rfl⟩, st', fun b hb => (hf b hb).1⟩⟩
  rw [Int.mul_one]
 done := by
  intro X hP hw hK hc i pins s σ H E I hf st hg
  subst hP hw hK
  obtain ⟨f0, f1, f2, f3, f4, f5⟩ := hf it (by simp)
  obtain ⟨hn, C, hC⟩ := hg
  obtain ⟨ox, fs, ho, hd, h2⟩ := (show NoCtx s.heap x from (I.hok x _ hC).1.2)
  exact next_range_in hc ho hd h2 st (by lia) fun h' eb => ⟨rfl, I.turned (t' := s.toks) (fun b o hb e => eb b o hb e) f0 f1 f3 f4 f5⟩
 self := fun _ _ _ _ _ st h => wpAny_pyIter_rangeiter st h
section
variable {X : Cx} {tg : Expr}
theorem range_itX {x : Addr} {pins : List (Addr × Obj)} {σ : St} {H : Hp} {s : Shared} {R : It -> Hp -> Prop} {E : Value -> Shared -> Prop} {lo hi : Int} {t u v : Tok} {tk : Nat} (I : Inv X pins σ H s) (h1 : -(2 ^ 62) <= lo) (h2 : lo < 2 ^ 62) (h3 : -(2 ^ 62) <= hi) (h4 : hi < 2 ^ 62)
  (q : R (Itrx x lo (hi - lo).toNat) H) : wpAny (model X.prog X.w) X.A (pyIter (.ref s.heap.objs.size)) (PIEG (hxG x) X pins σ tg R) E { s with heap := s.heap.push { cls := .type "range", data := .fields #[.int lo t, .int hi u, .int 1 v] }, toks := tk } := by
 refine wpAny_pyIter_range (IsRange.new ..) (small_one h1 h2 h3 h4) ?_
 have I1 : Inv X pins σ H { s with heap := s.heap.push { cls := .type "range", data := .fields #[.int lo t, .int hi u, .int 1 v] }, toks := tk } := I.kept fun b o e => Heap.get?_push_of_some _ e
 refine ⟨(s.heap.push { cls := .type "range", data := .fields #[.int lo t, .int hi u, .int 1 v] }).objs.size, [(s.heap.push { cls := .type "range", data := .fields #[.int lo t, .int hi u, .int 1 v] }).objs.size], _, _, H, rfl,
  I1.kept (t' := tk) fun b o e => Heap.get?_push_of_some _ e, turn_rangeX x _ lo (hi - lo).toNat, ?_, fun b hb => ?_, q⟩
 ·have e1 : lo + ((0 : Nat) : Int) * 1 = lo := by simp
  have e2 : (((hi - lo).toNat : Nat) : Int) - ((0 : Nat) : Int) = Builtin.Range.rangeSize lo hi 1 := by rw [rangeSize_one]; split <;> lia
  show IsRangeIter _ _ (lo + ((0 : Nat) : Int) * 1) ((((hi - lo).toNat : Nat) : Int) - ((0 : Nat) : Int)) 1
  rw [e1, e2]
  exact Heap.get?_push_size _ rfl
 ·have e : b = (s.heap.push { cls := .type "range", data := .fields #[.int lo t, .int hi u, .int 1 v] }).objs.size := by simpa using hb
  subst e
  exact I1.fpOk (Nat.le_refl _) (I1.hok.fresh (Nat.le_refl _))
noncomputable def gRange1X (x : Addr) (j : Nat) (g : DS -> Option (List D)) : DS -> Option (List D) := fun δ => ((δ[j]?).join.bind exP).bind fun y => if y.1 = (x : Nat) then gRange1 g δ else none
set_option tactic.hygienic true in
theorem pd_range1X {O : List Nat} {a : Expr} {gr : DS -> Option (List D)} {p pos : Pos} (x : Addr) (j : Nat) (hm : X.mg "range" = none) (ha : PA X [a] (tAs X.K O gr)) (hg : Gl X "range" := by rfl) (hs : starEach [a] X.env = [(false, eval a X.env)] := by rfl) :
  PIG (hxG x) X tg (.Call (.Name "range" p) [a] [] pos) (tIc X.K O (gRange1X x j gr)) := by
 rintro pins s σ H Q I ⟨U, A0, δ, ds, R, ed, q⟩
 obtain ⟨y, ey, ed2⟩ := bind1 ed
 obtain ⟨d0, hj, ej⟩ := bind1 ey
 ·split at ed2
  ·rename_i ha0
   obtain ⟨v0, _, hv0⟩ := R.at (join_some hj)
   obtain ⟨a1, C, ea, _, _, hH⟩ := hv0.excP ej
   have hax : a1 = x := Int.ofNat.inj (ea.symm.trans ha0)
   subst hax
   obtain ⟨xs, e1, e2⟩ := bind1 ed2
   split at e2
   ·split at e2
    ·rename_i j0 hz
     cases e2
     refine Call_ (ld_blt I hg hm boot_range (PyProof.Rows.callWith_type1 (thn (ha pos pins s σ H (fun vs H1 => Same H H1 /\ HDs X.K (wo H1 (U ++ A0)) vs [.int j0]) I ⟨U, A0, δ, _, R, e1, fun vs H' s h => ⟨s, h⟩⟩) fun us s1 ⟨vs, H1, I1, r1, s1', h1⟩ => ?_) hs rfl))
     cases h1 with
     | cons h1 h2 =>
       cases h2
       cases h1
       cases r1 with
       | cons r rr =>
         cases rr
         obtain ⟨t, rfl⟩ := r
         refine call_range_1 (range_itX (x := a1) I1 (by lia) (by lia) hz.1 hz.2 (q _ H1 s1' fun i H2 s2 => ⟨fun d hd => ?_, fun hi => ?_⟩))
         ·rw [Int.sub_zero]
          obtain ⟨hi, rfl⟩ := rangeD_get hd
          refine ⟨hi, fun y H3 hy => ?_⟩
          obtain ⟨rfl, rfl⟩ := hy
          exact ⟨Same.refl _, .int _⟩
         ·rw [rangeD_len] at hi
          subst hi
          rw [Int.sub_zero]
          exact ⟨Nat.le_refl _, C, s2 _ _ (s1' _ _ hH)⟩
    ·cases e2
   ·cases e2
  ·cases ed2
end
section
variable {X : Cx} {O : List Nat} {scope : Scope} {elt iter tg : Expr} {ifs : List Expr} {pos : Pos} {gi : DS -> Option (List D)} {ge : DS -> Option D} {gt : D -> DS -> Option DS} {gc : DS -> Option Bool} {k : Nat}
theorem pd_setCLG {gd : Cx -> Prop} {i : Nat} {y : Str} {py spos : Pos} (sc : Scope) (N : List Str) (ix : List Nat) (N' xs : List Str) (hc : ∀ cl C s2 H2 fp pins, gd (compCx X scope N' cl C s2 H2 fp pins)) (hN0 : X.N.Nodup) (hi0 : X.N[i]? = some y) (hy : X.env.scope.names.lookup y = some .local) (own : Own k gt) (hi : PIG gd X tg iter (tIc X.K O gi))
  (hg : ∀ cl C s2 H2 fp pins, PG (compCx X scope N' cl C s2 H2 fp pins) tg (tG X.K [] gt)) (hf : ∀ cl C s2 H2 fp pins, PF (compCx X scope N' cl C s2 H2 fp pins) ifs (tT X.K [] gc)) (helt : ∀ cl C s2 H2 fp pins, PE (compCx X scope N' cl C s2 H2 fp pins) elt (tE X.K [] ge))
  (hix : ∀ j ∈ ix, j ∉ O := by decide) (hk : compChkL sc scope N xs ix N' = true := by decide +kernel) (hl : xs.length = k := by rfl)
  (e1 : X.env.scope = sc := by rfl) (e2 : X.N = N := by rfl) (hs : ∀ x, foldedSetIterable iter X.env x = pure x := by intro _; rfl) (hsw : swapsWith (.ListComp elt [⟨tg, iter, ifs, 0⟩] scope pos) (some (.Name y py)) spos.line X.env = pure true := by rfl) :
  PS X (.Assign [.Name y py] (.ListComp elt [⟨tg, iter, ifs, 0⟩] scope pos) spos) (tAsg (tN X.K O (gCompL gi k ix gt gc ge)) (gName i)) := by
 subst hl
 exact (ps_setCSL (compScL_of hk e1 e2) hc hi hg hf helt hs hN0 hi0 hy hsw).mono fun _ _ _ h => tCompL_N own hix h
end
theorem RoomX.units {k : Nat} {A : Around} (r : RoomX k A) : A.units + 64 < cLine := by have := r.un; lia
theorem op_neX {X : Cx} {k : Nat} (hr : RoomX k X.A) : OpR X (compareOp .NotEq) (rEqH X.K true) := by
 intro pins s σ H x y v u Q I rx ry h
 obtain ⟨d, e, h1, h2, s1, s2, q⟩ := h
 obtain ⟨as, r1⟩ := h1.reads I rx (shaped_lay s1)
 obtain ⟨bs, r2⟩ := h2.reads I ry (shaped_lay s2)
 exact ne_dataH r1 r2 s1 s2 hr.units ⟨.bl _, H, I, rfl, q⟩
structure FnW (P : Program) (w : World) (K : Frag) (mg : Str -> Option Value) (base : Heap) (k : Nat) (f : Addr) (fd : FuncData) (ps : List Str) (sp : Addr -> Sp) : Prop where
 len : ∀ x vs H Q E, sp x vs H Q E -> vs.length = ps.length
 run : ∀ (x : Addr) (A : Around) (outer : List Env) (s : Shared) (H : Hp) (args : Args) (us : List Value) (vs : List V) (Q : VK) (E : XK), RoomX k A -> A.handled = some (.ref x) -> Env0 P w K mg base A outer s H -> BindsTo s fd args (ps.zip us) -> Vals vs us -> sp x vs H Q E ->
  codeAny (model P w) A (.call (.ref f) args) (CR CX0 outer P w H s Q E) s
section
variable {P : Program} {w : World} {K : Frag} {mg : Str -> Option Value} {base : Heap}
theorem fn_ofW {k : Nat} {f : Addr} {name qual : Str} {params : Arguments} {body : List Stmt} {scope : Scope} {dV kV doc pm cdv ct oc : Value} {an od : Option Addr} {osl : Array (Option Value)} {N ps : List Str} {sp : Addr -> Sp}
  (lk : K.lookup f = some ⟨oc, od, .func (fnOf name qual params body scope dV kV doc pm an cdv ct), osl⟩) (hcd : codeIn K cdv qual = true) (S : FnScope N ps scope) (len : ∀ x vs H Q E, sp x vs H Q E -> vs.length = ps.length)
  (hbody : ∀ (x : Addr) (A : Around) (outer : List Env) (s : Shared) (H : Hp) (vs : List V) (Q : VK) (E : XK), RoomX k (A.deeper (envOfC qual scope s.heap.objs.size f cdv)) -> A.handled = some (.ref x) -> sp x vs H Q E ->
   ∃ t, PSs (cxX P w K mg base N qual scope f cdv A outer s H) body t /\ t { nx := fun _ H' => Q .non H', rt := Q } (start N vs) H) :
  FnW P w K mg base (k + 1) f (fnOf name qual params body scope dV kV doc pm an cdv ct) ps sp := by
 refine ⟨len, fun x A outer s H args us vs Q E hr hx e0 hb r hsp => ?_⟩
 have KX : K.In s.heap := e0.mod.kin.keeps fun b o e => (e0.bs b o e).1
 have lim : s.heap.NoLimit := e0.mod.nolimit.keeps fun b o e => (e0.bs b o e).1
 obtain ⟨t, ht, hq⟩ := hbody x A outer s H vs Q E (hr.deeper _) hx hsp
 have hkind : ∀ y ∈ ps.zip us, scope.names.lookup y.1 = some .local \/ (scope.names.lookup y.1 = some .cell /\ ((cellsFrom (s.heap.objs.size + 1) scope.names []).lookup y.1).isSome = true) := fun ⟨n, v⟩ hy =>
  (S.par n (List.of_mem_zip hy).1).elim .inl fun q => .inr ⟨q, cellsFrom_some _ _ _ (.inl q)⟩
 refine codeAny_call_function (by have := hr.dp; lia) (KX _ _ lk) rfl S.co S.gen rfl (codeRec_of KX hcd) (hb _ _ _ _ (wpAny_newFunctionEnv_cells S.kind hkind fun env he s1 x => ?_))
 subst he
 refine ⟨lim.keeps x.toInCall.keep, codeAny_func ?_⟩
 have e1 : Env0 P w K mg base { A with handled := none } outer s H := ⟨e0.frames, e0.mod, e0.bs, e0.bsz, e0.funs, e0.frf, e0.hok, e0.bare⟩
 have J : Inv (cxOf CX0 P w K mg base N qual scope f cdv { A with handled := none } outer s H E0) [] (start N vs) H s1 := inv_start S rfl e1 (len _ _ _ _ _ hsp) r x
 have I : Inv (cxX P w K mg base N qual scope f cdv A outer s H) [] (start N vs) H s1 :=
  ⟨⟨J.ok.mod, J.ok.kind, J.ok.glob, J.ok.blt, J.ok.above, J.ok.inj, J.ok.has, J.ok.cab, (fun z => nomatch z), Around.frames_deeper e0.frames, J.ok.stk, J.ok.exf, J.ok.bs, J.ok.bsz, J.ok.noex, J.ok.exfs, J.ok.funs, J.ok.frf⟩,
    J.os, J.bare, J.base, J.loc, J.cell, J.free, J.freeC, J.pin, J.hok, J.len⟩
 refine wpAny_mono (ht [] s1 (start N vs) H _ I hq) (fun fl s' hs => ?_) fun e s' hs => hs.elim
 cases fl with
 | ret u =>
   obtain ⟨v, σ', H', J', rv, q⟩ := hs
   exact ⟨v, H', J'.os, J'.bare, J'.base, J'.hok, rv, q⟩
 | next =>
   obtain ⟨σ', H', J', q⟩ := hs
   exact ⟨.non, H', J'.os, J'.bare, J'.base, J'.hok, rfl, q⟩
 | brk => obtain ⟨_, _, _, q⟩ := hs; exact q.elim
 | cont => obtain ⟨_, _, _, q⟩ := hs; exact q.elim
noncomputable def DnW (P : Program) (w : World) (K : Frag) (mg : Str -> Option Value) (base : Heap) (k : Nat) (x : Str) (ps : List Str) (sp : Addr -> Sp) : Prop :=
 ∃ f fd, FnW P w K mg base k f fd ps sp /\ mg x = some (.ref f) /\ keepIn K (.ref f) = true /\ Binds K fd ps []
theorem pd_defW {x : Str} {st : Stmt} {N ps : List Str} {k : Nat} (O : List Nat) (g : Addr -> DS -> Option Res) (F : Df K mg x st ps) (S : FnScope N ps (defScope st))
  (body : ∀ (y f : Addr) (cdv : Value) (A : Around) (outer : List Env) (s : Shared) (H : Hp), RoomX k (A.deeper (envOfC x (defScope st) s.heap.objs.size f cdv)) -> A.handled = some (.ref y) -> PSs (cxX P w K mg base N x (defScope st) f cdv A outer s H) (defBody st) (tS K O (false, fun _ _ => True) (g y)))
  (hO : ∀ i ∈ O, ps.length <= i := by decide) {n m : Nat} (hN : N.length = n := by rfl) (hP : ps.length = m := by rfl) : DnW P w K mg base (k + 1) x ps (fun y => spD K m (gDef n (g y))) := by
 subst hN hP
 obtain ⟨f, fd, F, m, b⟩ := F
 have kp := F.kp
 obtain ⟨oc, od, kV, doc, pm, an, cdv, ct, osl, rfl, lk, hcd⟩ := F.ex
 refine ⟨f, _, fn_ofW lk hcd S (fun y vs H Q E h => h.1) (fun y A outer s H vs Q E hr hy h => ⟨_, body y f cdv A outer s H hr hy, ?_⟩), m, kp, b⟩
 obtain ⟨hn, A', ds, d, al, hd, e, q⟩ := h
 obtain ⟨r, e1, e2⟩ := bind1 e
 refine ⟨H, [], A', _, r, Rel.start al hd (fun i hi => by have := hO i hi; rw [<- hd.len, hn]; exact this), Fx.start al, e1, ?_⟩
 cases r with
 | nx δ => cases e2; exact fun U σ H' R F' => q .non H' F'.same .non
 | rt d => cases e2; exact ⟨fun v H' h => by unfold RetR at h; rw [if_neg Bool.false_ne_true] at h; exact q v H' h.1 h.2, fun _ _ _ _ => trivial⟩
 | bk _ => cases e2
 | ct _ => cases e2
end
set_option tactic.hygienic true in
theorem pd_callW {X : Cx} {O : List Nat} {y : Addr} {k kk n : Nat} {ps : List Str} {G : Addr -> List D -> Option D} {x : Str} {p pos : Pos} {e : Expr} {es : List Expr} {gr : DS -> Option (List D)} (F : DnW X.prog X.w X.K X.mg X.base k x ps (fun y => spD X.K n (G y))) (hr : RoomX kk X.A) (hk : k <= kk) (hy : X.A.handled = some (.ref y))
  (ha : PA X (e :: es) (tAs X.K O gr)) (hg : Gl X x := by rfl) (hdb : (x == ("__debug__" : Str)) = false := by decide) (he : starEach (e :: es) X.env = (false, eval e X.env) :: starEach es X.env := by rfl) (hpl : (backTo pos (starEach es X.env)).any (·.1) = false := by rfl) :
  PE X (.Call (.Name x p) (e :: es) [] pos) (tE X.K O (gCall (G y) n gr)) := by
 obtain ⟨f, fd, F, hm, kp, hb⟩ := F
 rintro pins s σ H Q I ⟨U, A0, δ, d, R, ed, q⟩
 obtain ⟨ds, e1, e2⟩ := bind1 ed
 split at e2
 rotate_left
 ·cases e2
 rename_i hn
 refine wpAny_Call_Name_kw (ld_glob I hg hm ?_ hdb)
 refine callWith_K (h₀ := X.base) I.ok.mod.kin kp (thn5 (ha pos pins s σ H (fun vs H1 => spD X.K n (G y) vs H1 Q E0) I ⟨U, A0, δ, ds, R, e1, fun vs H' s h => ⟨by rw [h.len]; exact hn, U ++ A0, ds, d, (R.same s).al, h, e2, fun v H2 s2 h2 => q v H2 (s.trans s2) h2⟩⟩) fun us s1 vs H1 I1 r q => ⟨I1.kIn, ?_⟩) he hpl
 have hlen : us.length = ps.length := by rw [<- r.length]; exact F.len _ _ _ _ _ q
 refine wpAny_call (codeAny_mono (F.run y X.A X.stack s1 H1 ⟨us, []⟩ us vs _ _ (hr.mono hk) hy I1.env0 (by have := hb s1 us I1.kIn (by rw [List.append_nil]; exact hlen); rwa [List.append_nil] at this) r q) fun rr s' hq => ?_)
 cases rr with
 | error v => exact False.elim hq
 | ok fl =>
   cases fl with
   | ret u => exact I1.after hq
   | next => exact False.elim hq
   | brk => exact False.elim hq
   | cont => exact False.elim hq
noncomputable def handOf (cs : List Str) (f : Str -> D) : Str -> Option D := fun c => if c ∈ cs then some (f c) else none
theorem handOf_some {cs : List Str} {f : Str -> D} {c : Str} {d : D} (h : handOf cs f c = some d) : c ∈ cs /\ d = f c := by
 unfold handOf at h
 split at h
 ·cases h; exact ⟨by assumption, rfl⟩
 ·cases h
theorem handOf_mem {cs : List Str} {f : Str -> D} {c : Str} {d : D} (h : handOf cs f c = some d) : c ∈ cs := (handOf_some h).1
theorem hand_by {W : List D -> Option D} {i : Nat} {δ : DS} {x d : D} (e : gVar i δ = some x) (h : W [x] = some d) : gRet (gCall W 1 (gConsA (gVar i) gNilA)) δ = some (.rt d) := by
 have e2 : gCall W 1 (gConsA (gVar i) gNilA) δ = some d := by
  unfold gCall gConsA gNilA
  rw [e]
  exact h
 unfold gRet
 rw [e2]; rfl
theorem gRange1X_self {x : Addr} {j : Nat} {c : Str} {g : DS -> Option (List D)} {δ : DS} (e : (δ[j]?).join = some (exD x c)) : gRange1X x j g δ = gRange1 g δ := by
 unfold gRange1X
 rw [e]
 exact if_pos rfl
theorem compL_gi {gi gi' : DS -> Option (List D)} {k : Nat} {ix : List Nat} {gt : D -> DS -> Option DS} {gc : DS -> Option Bool} {ge : DS -> Option D} {δ : DS} (h : gi δ = gi' δ) : gCompL gi k ix gt gc ge δ = gCompL gi' k ix gt gc ge δ := by unfold gCompL; rw [h]
theorem set_gi {g g' : DS -> Option (List D)} {i : Nat} {δ : DS} (h : g δ = g' δ) : gSet i (gLst g) δ = gSet i (gLst g') δ := by unfold gSet gLst; rw [h]
theorem seq_gi {a a' b : DS -> Option Res} {δ : DS} (h : a δ = a' δ) : gSeq a b δ = gSeq a' b δ := by unfold gSeq; rw [h]
noncomputable def ClTs (K : Frag) (mg : Str -> Option Value) (cs TS : List Str) : Prop := ∀ T ∈ TS, ∃ C, mg T = some (.ref C) /\ ClT K cs T (.ref C)
noncomputable def ClEs (K : Frag) (mg : Str -> Option Value) (L : Addr) (cs : List Str) : Prop := ∀ c ∈ cs, ∃ C, nsIn K mainGlobals c = some (some (.ref C)) /\ mg c = some (.ref C) /\ exmOne K (.ref C) (.ref L) = some true
theorem pd_isiC {X : Cx} {O : List Nat} {e : Expr} {ga : DS -> Option D} {pos p p2 : Pos} {T : Str} (cs TS : List Str) (CT : ClTs X.K X.mg cs TS) (hTS : T ∈ TS) (hB : X.mg "isinstance" = none) (ha : PE X e (tSh X.K O ga)) (hgT : Gl X T := by rfl) (hdT : (T == ("__debug__" : Str)) = false := by decide) (hg : Gl X "isinstance" := by rfl)
  (he : starEach [e, .Name T p2] X.env = (false, eval e X.env) :: starEach [.Name T p2] X.env := by rfl) (he2 : starEach [.Name T p2] X.env = (false, eval (.Name T p2) X.env) :: starEach [] X.env := by rfl) (hpl : (backTo pos (starEach [.Name T p2] X.env)).any (·.1) = false := by rfl) :
  PE X (.Call (.Name "isinstance" p) [e, .Name T p2] [] pos) (tE X.K O (gIsiX cs T ga)) := by
 obtain ⟨C, m, k⟩ := CT T hTS
 exact pd_isiX cs hB ha (pe_cn (v := .ref C) ⟨_, m, rfl⟩ hgT hdT) (fun u r => r) k hg he he2 hpl
noncomputable def isCls : Option Obj -> Bool
 | some ⟨_, _, .cls _, _⟩ => true
 | _ => false
noncomputable def xclsB (K : Frag) (C : Addr) : Bool := isCls (K.lookup C) && subIn K (.ref C) (.type "object") == some true && subIn K (.ref C) (.type "BaseException") == some true && findIn K (.ref C) "__class__" == some (some (.builtin "object.__class__")) &&
 findIn K (.ref C) "__getattribute__" == some (some (.builtin "BaseException.__getattribute__")) && findIn K (.ref C) "__getattr__" == some none
theorem xcls_of {K : Frag} {C : Addr} (q : xclsB K C = true) : XCls K C := by
 unfold xclsB at q
 simp only [Bool.and_eq_true, beq_iff_eq] at q
 obtain ⟨⟨⟨⟨⟨a, b⟩, c⟩, d⟩, e⟩, f⟩ := q
 refine ⟨?_, b, c, d, e, f⟩
 unfold isCls at a
 split at a
 ·exact ⟨_, _, _, _, by assumption⟩
 ·cases a
noncomputable def refOf : Option (Option Value) -> Option Addr
 | some (some (.ref C)) => some C
 | _ => none
theorem refOf_some {v : Option (Option Value)} {C : Addr} (h : refOf v = some C) : v = some (some (.ref C)) := by
 unfold refOf at h
 split at h
 ·cases h; rfl
 ·cases h
noncomputable def clsB (K : Frag) (L : Addr) (cs TS : List Str) : Bool := (TS.all fun T => (refOf (nsIn K mainGlobals T)).isSome) && cs.all fun c => match refOf (nsIn K mainGlobals c) with
 | some C => xclsB K C && exmOne K (.ref C) (.ref L) == some true && kitOne K (.ref C) (.type "ValueError") == some true && TS.all fun T => match refOf (nsIn K mainGlobals T) with
   | some CT => kitOne K (.ref C) (.ref CT) == some (isX c T)
   | none => false
 | none => false
section
variable {K : Frag} {L : Addr} {cs TS : List Str} {c : Str} {h : Heap} {mg : Str -> Option Value}
set_option tactic.hygienic true in
theorem clsB_one (q : clsB K L cs TS = true) (hc : c ∈ cs) : ∃ C, nsIn K mainGlobals c = some (some (.ref C)) /\ XCls K C /\ exmOne K (.ref C) (.ref L) = some true /\ kitOne K (.ref C) (.type "ValueError") = some true /\
  ∀ T ∈ TS, ∀ CT, nsIn K mainGlobals T = some (some (.ref CT)) -> kitOne K (.ref C) (.ref CT) = some (isX c T) := by
 unfold clsB at q
 rw [Bool.and_eq_true] at q
 have q1 := List.all_eq_true.mp q.2 c hc
 split at q1
 ·rename_i C hC
  simp only [Bool.and_eq_true, beq_iff_eq] at q1
  obtain ⟨⟨⟨a, b⟩, d⟩, e⟩ := q1
  refine ⟨C, refOf_some hC, xcls_of a, b, d, fun T hT CT hCT => ?_⟩
  have e1 := List.all_eq_true.mp e T hT
  rw [hCT] at e1
  exact beq_iff_eq.mp e1
 ·cases q1
theorem clTs_of (X : K.In h) (G : h.Ns mainGlobals mg) (q : clsB K L cs TS = true) : ClTs K mg cs TS := fun T hT => by
 have q0 := q
 unfold clsB at q0
 rw [Bool.and_eq_true] at q0
 have q1 := List.all_eq_true.mp q0.1 T hT
 obtain ⟨CT, hCT⟩ := Option.isSome_iff_exists.mp q1
 have hn := refOf_some hCT
 refine ⟨CT, mg_of X G hn, fun c hc C hC => ?_⟩
 obtain ⟨C', h1, h2, _, _, h5⟩ := clsB_one q hc
 rw [hC] at h1
 cases h1
 exact ⟨h2, h5 T hT CT hn⟩
theorem clVE_of (q : clsB K L cs TS = true) : ClT K cs "ValueError" (.type "ValueError") := fun c hc C hC => by
 obtain ⟨C', h1, h2, _, h4, _⟩ := clsB_one q hc
 rw [hC] at h1
 cases h1
 refine ⟨h2, h4.trans ?_⟩
 unfold isX
 simp
theorem clEs_of (X : K.In h) (G : h.Ns mainGlobals mg) (q : clsB K L cs TS = true) : ClEs K mg L cs := fun c hc => by
 obtain ⟨C, h1, _, h3, _⟩ := clsB_one q hc
 exact ⟨C, h1, mg_of X G h1, h3⟩
end
theorem swap_list {es : List Expr} {p : Pos} {t : Option Expr} {l : Nat} {env : Env} : swapsWith (.List es p) t l env = pure false := rfl
noncomputable def strsE : List Expr -> Option (List Str)
 | [] => some []
 | .Constant (.str n) _ _ :: es => (strsE es).map (n :: ·)
 | _ => none
noncomputable def gStrs (ns : List Str) : DS -> Option (List D) := fun _ => some (ns.map .str)
set_option tactic.hygienic true in
theorem pd_astrs {X : Cx} {O : List Nat} : ∀ {es : List Expr} {ns : List Str}, strsE es = some ns -> PA X es (tAs X.K O (gStrs ns))
 | [], ns, h => by
   cases h
   exact pd_anil
 | e :: es, ns, h => by
   unfold strsE at h
   split at h
   ·cases ‹_ :: _ = []›
   ·rename_i n k p es' he
    cases he
    cases q : strsE es with
    | none => rw [q] at h; cases h
    | some ms =>
      rw [q] at h
      cases h
      exact pd_acons (pd_str pe_str) (pd_astrs q) rfl
   ·cases h
theorem bt_VE : bootBuiltins "ValueError" = some (.type "ValueError") := by decide +kernel
noncomputable abbrev VE : List Value := [.type "ValueError", .type "Exception", .type "BaseException", .type "object"]
end L2
namespace L2
open PySem PySem.Spec PySem.W PyProof.Rows
theorem pd_defRC {P : Program} {w : World} {K : Frag} {mg : Str -> Option Value} {base : Heap} {x : Str} {st : Stmt} {N ps : List Str} {k : Nat} {c : Addr} (O : List Nat) (g : DS -> Option Res) (F : DfC K mg x st ps c) (S : FnScope N ps (defScope st))
  (body : ∀ (f : Addr) (A : Around) (outer : List Env) (s : Shared) (H : Hp) (E : XK), Room k (A.deeper (envOfC x (defScope st) s.heap.objs.size f (.ref c))) -> PSs (cxOf (CXr P w) P w K mg base N x (defScope st) f (.ref c) A outer s H E) (defBody st) (tS K O (false, xkOf mg E) g))
  (hO : ∀ i ∈ O, ps.length <= i := by decide) {n m : Nat} (hN : N.length = n := by rfl) (hP : ps.length = m := by rfl) : DnR P w K mg base (k + 1) x ps (spR K mg m (gDef n g)) := by
 subst hN hP
 obtain ⟨f, fd, F, hc, m, b⟩ := F
 have kp := F.kp
 obtain ⟨oc, od, kV, doc, pm, an, cdv, ct, osl, rfl, lk, hcd⟩ := F.ex
 cases (show cdv = .ref c from hc)
 refine ⟨f, _, fn_of lk hcd S (fun vs H Q E h => h.1) fun A outer s H vs Q E hr h => ⟨_, body f A outer s H E hr, ?_⟩, m, kp, b⟩
 obtain ⟨hn, A', ds, d, al, hd, e, q, qx⟩ := h
 obtain ⟨r, e1, e2⟩ := bind1 e
 refine ⟨H, [], A', _, r, Rel.start al hd (fun i hi => by have := hO i hi; rw [<- hd.len, hn]; exact this), Fx.start al, e1, ?_⟩
 cases r with
 | nx δ => cases e2; exact fun U σ H' R F' => q .non H' F'.same .non
 | rt d => cases e2; exact ⟨fun v H' h => by unfold RetR at h; rw [if_neg Bool.false_ne_true] at h; exact q v H' h.1 h.2, fun c H' e s => qx c H' e s⟩
 | bk _ => cases e2
 | ct _ => cases e2
end L2
namespace L2
open PySem PySem.Spec PySem.W PyProof.Rows
noncomputable def DnCR (P : Program) (w : World) (K : Frag) (mg : Str -> Option Value) (k kc n : Nat) (x p : Str) (GP : GPT) : Prop :=
 (∃ f0, mg x = some (.ref f0) /\ keepIn K (.ref f0) = true) /\ ∀ (base : Heap) (f : Addr) (c : Ca) (q : Str) (G : List D -> Option D), K.In base -> base.Ns mainGlobals mg -> Clo P w K mg base kc f c q n G -> DnR P w K mg base k x [p] (spR K mg 1 (GP f c q G))
theorem two_of (us : List Value) (h : us.length = 2) : ∃ a b, us = [a, b] := by
 cases us with
 | nil => cases h
 | cons a r =>
   cases r with
   | nil => cases h
   | cons b r => exact ⟨a, b, by rw [List.length_eq_zero_iff.mp (Nat.succ.inj (Nat.succ.inj h))]⟩
section
variable {X : Cx} {O : List Nat} {E : XK}
noncomputable def tPWR (K : Frag) (mg : Str -> Option Value) (E : XK) (O : List Nat) (g : DS -> Option D) : TE := fun σ H Q => ∃ H0 U A0 δ d, Rel K O U A0 σ δ H /\ Fx H0 A0 U H /\ g δ = some d /\ (∀ v H', Same H0 H' -> HD K (wo H' A0) v d -> Q v H') /\ ∀ c H', d = rxD c -> Same H0 H' -> xkOf mg E c H'
theorem pe_pwdR {k kk kc : Nat} {x pn y : Str} {GP : GPT} {c P : Addr} {q : Str} {params : Arguments} {body : Expr} {scope : Scope} {pos p pos' : Pos} {ps : List Str} {i : Nat} {gb : DS -> Option D} (sc : Scope)
  (DP : DnCR X.prog X.w X.K X.mg k (kc + 1) ps.length x pn GP) (hr : Room kk X.A) (hk : k <= kk) (hx : Passes (CXr X.prog X.w) X E) (hB : BAt X.mg X.base) (hHd : codeHdIn X.K c P = true) (m : (P, pos, q) ∈ lamTab) (S : LamS ps [y] scope)
  (hbody : ∀ (base : Heap) (f c' : Addr) (cl : List (Str × Addr)) (A : Around) (outer : List Env) (s : Shared) (H : Hp) (E : XK), Room kc (A.deeper (envX q scope s.heap.objs.size f (.ref c') cl)) -> PE (cxCl CX0 X.prog X.w X.K X.mg base (ps ++ [y]) q scope f (.ref c') cl A outer s H E) body (tE X.K [] gb))
  (hb : ∀ (name qual : Str) (cl : List (Str × Addr)) (pm cd ctv : Value) (us : List Value), us.length = ps.length -> bindArgs (kla_fn name qual params body scope cl pm cd ctv) ⟨us, []⟩ = pure (ps.zip us))
  (hi : i ∈ O) (hcode : X.env.code = .ref c) (hq : X.env.qual ++ Str.ofString "<lambda>" = q) (hN : X.N[i]? = some y) (e0 : X.env.scope = sc) (hvis : sc.names.lookup y = some .cell) (hfr : ∀ y ∈ scope.names, y.2 = .free -> sc.names.lookup y.1 = some .cell)
  (hfn : ∀ x, X.fn x = true) (hd : defaultsOf params X.env = ([], [])) (hg : Gl X x)
  (hdb : (x == ("__debug__" : Str)) = false) (he : starEach [.Lambda params body scope pos] X.env = (false, eval (.Lambda params body scope pos) X.env) :: starEach [] X.env) (hpl : (backTo pos' (starEach [] X.env)).any (·.1) = false) :
  PE X (.Call (.Name x p) [.Lambda params body scope pos] [] pos') (tPWR X.K X.mg E O (gPWd GP q i gb)) := by
 subst e0
 rintro pins s σ H Q I ⟨H0, U, A0, δ, d, R, F, ed, q', qx⟩
 obtain ⟨kds, e1, e2⟩ := gPWd_get ed
 obtain ⟨⟨f0, m0, kp⟩, DP⟩ := DP
 obtain ⟨l, o, hσ, hU, ho, ow⟩ := R.ow i _ hi e1
 obtain ⟨kvs, hkv, kk, hv⟩ : ∃ kvs, o = .dT kvs /\ kds.map (·.1) = kvs.map (fun p => PyData.tuple (p.1.map keyD)) /\ HDs X.K (wo H (U ++ A0)) (kvs.map (·.2)) (kds.map (·.2)) := by
  cases ow with
  | dct k h => exact ⟨_, rfl, k, h⟩
 subst hkv
 obtain ⟨ob, I⟩ := I.freeze ho
 have hlA : l ∉ A0 := F.out hU
 have hA : ∀ b, b ∈ U.filter (fun z => decide (z ≠ l)) ++ A0 ↔ b ∈ U ++ A0 /\ b ≠ l := fun b => by
  rw [List.mem_append, List.mem_append, List.mem_filter, decide_eq_true_eq]
  constructor
  ·rintro (z | z)
   ·exact ⟨.inl z.1, z.2⟩
   ·exact ⟨.inr z, fun y => hlA (y ▸ z)⟩
  ·rintro ⟨z | z, h⟩
   ·exact .inl ⟨z, h⟩
   ·exact .inr z
 obtain ⟨A', eA⟩ : ∃ A', A' = U.filter (fun z => decide (z ≠ l)) ++ A0 := ⟨_, rfl⟩
 rw [<- eA] at hA
 obtain ⟨H1, eH⟩ : ∃ H1, H1 = upd H l (.frz ob (.dT kvs)) := ⟨_, rfl⟩
 rw [<- eH] at I
 have hne : ∀ b, b ≠ l -> H1 b = H b := fun b hb => by rw [eH, upd_ne hb]
 have hl1 : H1 l = some (.frz ob (.dT kvs)) := by rw [eH]; exact upd_same
 have al : Ls A' H1 := ⟨fun b hb => by
   obtain ⟨z1, z2⟩ := (hA b).mp hb
   obtain ⟨o, e, w⟩ := R.al.1 b z1
   exact ⟨o, (hne b z2).trans e, w⟩, fun p xs m => by
   rw [eH]
   exact (R.al.2.1 p xs m).ne ((R.al.2.1 p xs m).apart ho True.intro), fun p y q m => by
   rw [hne p fun z => ?_]
   ·exact R.al.2.2 p y q m
   ·have t := R.al.2.2 p y q m
    rw [z, ho] at t; cases t⟩
 have s3 : Same (wo H (U ++ A0)) (wo H1 A') := fun b o hb => by
  obtain ⟨h1, h2⟩ := wo_some hb
  have hbl : b ≠ l := fun z => h1 (z ▸ List.mem_append_left _ hU)
  rw [wo_out fun z => h1 ((hA b).mp z).1, hne b hbl]
  exact h2
 have s4 : Same H0 H1 := fun b o hb => by
  rw [hne b fun z => by rw [z, F.new l hU] at hb; cases hb]
  exact F.same _ _ hb
 have hP : H1 P = some (.lam pos q) := al.2.2 P pos q m
 obtain ⟨ps0, hps, _⟩ := (show ObjOk X.prog X.w H1 s.heap P (.lam pos q) from I.hok P _ hP)
 obtain ⟨bm, ob', b1, b2, b3, b4, b5, b6⟩ := hB
 have hns : s.heap.Ns mainGlobals X.mg := Ns.widen I.bk I.ok.mod.glob
 have nem : ∀ {a : Addr}, (∀ o es ep, s.heap.get? a = some o -> o.data ≠ .dict es ep) -> a ≠ mainGlobals := fun {a} h z => by
  subst z
  obtain ⟨o, es, ep, e, d, _⟩ := hns
  exact h o es ep e d
 have b3' := I.bk _ _ b3
 refine wpAny_Call_Name_kw (ld_glob I hg m0 ?_ hdb)
 refine callWith_K (h₀ := X.base) I.ok.mod.kin kp ?_ he hpl
 rw [he]
 show wpAny _ _ (spliced ((false, eval (.Lambda params body scope pos) X.env) :: backTo pos' (starEach [] X.env))) _ _ s
 refine Calls.spliced_cons (mk_lam I hd (fun y hy hf => I.ok.has _ (.inl (hfr y hy hf))) hcode (codeHd_of_K I.kIn hHd) hP hq ⟨bm, ob', b1, b2, nem fun o es ep e z => ?_, fun z => ?_, b3', b4, b5, b6⟩ (Ne.symm (nem fun o es ep e z => ?_)) fun cl f c' ctv s1 H2 h1 h2 I1 s01 hc hf hff hobj => Calls.spliced_nil ⟨I1.kIn, ?_⟩)
 ·rw [b3'] at e; cases e; rw [b6] at z; cases z
 ·subst z
  rw [hps] at b3'; cases b3'
  cases b6
 ·rw [hps] at e; cases e; cases z
 ·have C := clo_mk (k := kc) (gb := gb) (kds := kds) I1 hobj hf hff h1 h2 hfn S hN hvis hσ (hb _ _ _ _ _ _) fun base => hbody base f c' cl
  obtain ⟨f1, fd, F1, m1, _, bi⟩ := DP (wideB X s1 H2) f ⟨c', l, kds⟩ q _ (I1.ok.mod.widen fun _ _ e => I1.wide e).kin (I1.ok.mod.widen fun _ _ e => I1.wide e).glob C
  rw [m0] at m1; cases m1
  have al2 := al.same s01
  have hcA : c' ∉ A' := fun z => by
   obtain ⟨o, e, w⟩ := al2.1 c' z
   rw [hc] at e; cases e; exact w
  have hlA' : l ∉ A' := fun z => ((hA l).mp z).2 rfl
  have sp : spR X.K X.mg 1 (GP f ⟨c', l, kds⟩ q (gLamD gb kds)) [V.ref f] H2 Q E := ⟨rfl, A', [codeF f ⟨c', l, kds⟩ q], d, al2, .cons (.fn (ob := ob) (by rw [wo_out hcA]; exact hc) (by rw [wo_out hlA']; exact s01 _ _ hl1) kk (hv.same (s3.trans (wo_mono s01)))) .nil, e2 f c' l, fun v H3 s5 h3 => q' v H3 (s4.trans (s01.trans s5)) (h3.same (wo_sub fun a ha => by rw [eA]; exact List.mem_append_right _ ha)), fun c H3 e s5 => qx c H3 e (s4.trans (s01.trans s5))⟩
  refine wpAny_call (codeAny_mono (F1.run X.A X.stack s1 H2 ⟨[.ref f], []⟩ [.ref f] [V.ref f] Q E (hr.mono hk) I1.env2 (bi s1 [.ref f] I1.kIn rfl) (.cons rfl .nil) sp) fun r s' hq => ?_)
  cases r with
  | error e => exact hx _ _ _ _ _ _ I1 hq
  | ok fl =>
    cases fl with
    | ret u => exact I1.after hq
    | next => exact False.elim hq
    | brk => exact False.elim hq
    | cont => exact False.elim hq
theorem pd_retPWR {k kk kc : Nat} {x pn y : Str} {GP : GPT} {c P : Addr} {q : Str} {params : Arguments} {body : Expr} {scope : Scope} {pos p pos' pr : Pos} {ps : List Str} {i : Nat} {gb : DS -> Option D} (sc : Scope)
  (DP : DnCR X.prog X.w X.K X.mg k (kc + 1) ps.length x pn GP) (hr : Room kk X.A) (hk : k <= kk) (hx : Passes (CXr X.prog X.w) X E) (hB : BAt X.mg X.base) (hHd : codeHdIn X.K c P = true) (m : (P, pos, q) ∈ lamTab) (S : LamS ps [y] scope)
  (hbody : ∀ (base : Heap) (f c' : Addr) (cl : List (Str × Addr)) (A : Around) (outer : List Env) (s : Shared) (H : Hp) (E : XK), Room kc (A.deeper (envX q scope s.heap.objs.size f (.ref c') cl)) -> PE (cxCl CX0 X.prog X.w X.K X.mg base (ps ++ [y]) q scope f (.ref c') cl A outer s H E) body (tE X.K [] gb))
  (hb : ∀ (name qual : Str) (cl : List (Str × Addr)) (pm cd ctv : Value) (us : List Value), us.length = ps.length -> bindArgs (kla_fn name qual params body scope cl pm cd ctv) ⟨us, []⟩ = pure (ps.zip us))
  (hi : i ∈ O := by decide) (hcode : X.env.code = .ref c := by rfl) (hq : X.env.qual ++ Str.ofString "<lambda>" = q := by rfl) (hN : X.N[i]? = some y := by rfl) (e0 : X.env.scope = sc := by rfl) (hvis : sc.names.lookup y = some .cell := by decide +kernel) (hfr : ∀ y ∈ scope.names, y.2 = .free -> sc.names.lookup y.1 = some .cell := by decide +kernel)
  (hfn : ∀ x, X.fn x = true := by intro _; rfl) (hd : defaultsOf params X.env = ([], []) := by rfl) (hg : Gl X x := by rfl)
  (hdb : (x == ("__debug__" : Str)) = false := by decide) (he : starEach [.Lambda params body scope pos] X.env = (false, eval (.Lambda params body scope pos) X.env) :: starEach [] X.env := by rfl) (hpl : (backTo pos' (starEach [] X.env)).any (·.1) = false := by rfl) :
  PS X (.Return (some (.Call (.Name x p) [.Lambda params body scope pos] [] pos')) pr) (tS X.K O (false, xkOf X.mg E) (gRet (gPWd GP q i gb))) :=
 (ps_ret (pe_pwdR sc DP hr hk hx hB hHd m S hbody hb hi hcode hq hN e0 hvis hfr hfn hd hg hdb he hpl)).mono fun E σ H hh => hh.e fun H0 U A0 δ r R F ed P => by
  obtain ⟨d, e1, e2⟩ := bind1 ed
  cases e2
  refine ⟨H0, U, A0, δ, d, R, F, e1, fun v H' s h => P.1 v H' ?_, fun c H' e s => P.2 c H' e s⟩
  unfold RetR
  rw [if_neg Bool.false_ne_true]
  exact ⟨s, h⟩
end
section
variable {X : Cx} {O : List Nat} {gk gd : DS -> Option D} {i o : Expr} {pos : Pos}
set_option tactic.hygienic true in
theorem pd_tdnotin (hu : X.A.units + 1 < cLine) (hi : PE X i (tSh X.K O gk)) (ho : PE X o (tSh X.K O gd)) (hm : behindInMarks .NotIn o = false := by rfl) : PT X (.Compare i [.NotIn] [o] pos) (tT X.K O (gB (gDin false gk gd))) :=
 (pt_cmp (pc_dnotin hu hi ho) hm).mono fun σ H Q hh => hh.e fun U A0 δ b R ed q => by
 obtain ⟨d, e0, e00⟩ := bind1 ed
 obtain ⟨y, e1, e2⟩ := bind1 e0
 obtain ⟨x, e3, e4⟩ := bind1 e2
 refine ⟨U, A0, δ, y, R, e1, fun v H1 s1 h1 => ⟨U, A0, δ, x, R.same s1, e3, fun v2 H2 s2 h2 => ?_⟩⟩
 cases x with
 | dict kds =>
   have e4 : (if fnD kds = true then none else (keyOf y).bind fun k => some (PyData.bool ((dLook kds k).isSome == false))) = some d := e4
   split at e4
   ·cases e4
   rename_i hf
   have hf := Bool.eq_false_iff.mpr hf
   obtain ⟨k, e5, e6⟩ := bind1 e4
   cases e6
   obtain ⟨a, kvs, rfl, ha, dk⟩ := h2.dk hf
   obtain ⟨b, rfl, hb⟩ := (h1.same s2).key e5
   cases e00
   refine ⟨a, _, rfl, DGet.t ha hb, _, rfl, ?_⟩
   have q := q H2 (s1.trans s2)
   rw [<- dk.isS k, beq_false] at q
   exact q
 | _ => cases e4
end
end L2
namespace Q1
end Q1
namespace Q1
end Q1
namespace MyLaw
open PySem L2 Q1
noncomputable abbrev bt (x : Int) : Nat := Builtin.Int.intBits x
theorem bt_of {m : Nat} {x : Int} (h : x.natAbs < 2 ^ m) : bt x <= m := intBits_le_iff.mpr h
theorem bt_up {m n : Nat} {x : Int} (h : bt x <= m) (h2 : m <= n) : bt x <= n := Nat.le_trans h h2
theorem d_mul {a b : Int} (h : IntMulOk a b) : dMulI (.int a) (.int b) = some (.int (a * b)) := dIc_ok h
theorem d_mod {a b : Int} (h : 0 < b) : dMod (.int a) (.int b) = some (.int (a % b)) := by
 rw [<- Int.fmod_eq_emod_of_nonneg _ (Int.le_of_lt h)]
 exact dIc_ok (C := fun _ j => j ≠ 0) (by lia)
theorem d_div {a b : Int} (h : 0 < b) (hb : bt b <= 9000) : dDiv (.int a) (.int b) = some (.int (a / b)) := by
 rw [<- Int.fdiv_eq_ediv_of_nonneg _ (Int.le_of_lt h)]
 exact dIc_ok (C := CDivS) ⟨by lia, nopy_bits hb⟩
theorem d_pow {a : Int} {k : Nat} (h : a.natAbs < 2 ^ 64) (hk : k <= 1000000) : dPow (.int a) (.int k) = some (.int (a ^ k)) := by
 have := dIc_ok (C := CPow) (g := fun i j => .int (i ^ j.toNat)) (a := a) (b := k) ⟨by lia, by lia, h⟩
 simpa using this
noncomputable def Gets {β : Type} (x : Option β) (P : β -> Prop) : Prop := ∃ d, x = some d /\ P d
theorem of_gets {β : Type} {x : Option β} {d : β} (h : Gets x fun y => y = d) : x = some d := by
 obtain ⟨y, e, rfl⟩ := h; exact e
theorem Gets.mk {β : Type} {x : Option β} {P : β -> Prop} {d : β} (e : x = some d) (h : P d) : Gets x P := ⟨d, e, h⟩
theorem gSeq_of {a b : DS -> Option Res} {δ δ' : DS} (h : a δ = some (.nx δ')) : gSeq a b δ = b δ' := by
 unfold gSeq; rw [h]; rfl
theorem gSeq_rt {a b : DS -> Option Res} {δ : DS} {d : D} (h : a δ = some (.rt d)) : gSeq a b δ = some (.rt d) := by
 unfold gSeq; rw [h]; rfl
theorem gWhile_inv {c : DS -> Option Bool} {b : DS -> Option Res} (W : Nat -> DS -> Prop) (Z : DS -> Prop) (m : Nat) {δ : DS} (h : W m δ)
  (hs : ∀ m δ, W m δ -> (c δ = some false /\ Z δ) \/ (c δ = some true /\ ∃ δ' m', b δ = some (.nx δ') /\ m' < m /\ W m' δ')) : ∃ δ', gWhile c b δ = some (.nx δ') /\ Z δ' := by
 obtain ⟨q, h1, δ', rfl, h2⟩ := gWhile_by W (fun _ q => ∃ δ', q = .nx δ' /\ Z δ') m δ h (fun m δ hW => by
  rcases hs m δ hW with ⟨a, z⟩ | ⟨a, δ', m', e, l, w⟩
  ·exact .inl ⟨a, δ, rfl, z⟩
  ·exact .inr ⟨a, .inl ⟨δ', m', .inl e, l, w, fun q hq => hq⟩⟩)
 exact ⟨δ', h1, h2⟩
theorem forD_inv {t : D -> DS -> Option DS} {b : DS -> Option Res} (W : Nat -> DS -> Prop) : ∀ (ds : List D) (k : Nat) {δ : DS}, W k δ -> (∀ i d δ, ds[i]? = some d -> W (k + i) δ -> ∃ δ1 δ', t d δ = some δ1 /\ b δ1 = some (.nx δ') /\ W (k + i + 1) δ') ->
  ∃ δ', forD t b ds δ = some (.nx δ') /\ W (k + ds.length) δ'
 | [], k, δ, h, _ => ⟨δ, rfl, h⟩
 | d :: ds, k, δ, h, hs => by
   obtain ⟨δ1, δ', e1, e2, h'⟩ := hs 0 d δ rfl h
   obtain ⟨δ2, e3, h2⟩ := forD_inv W ds (k + 1) h' (fun i d δ e w => by
    have := hs (i + 1) d δ (by simpa using e) (by rw [show k + (i + 1) = k + 1 + i by lia]; exact w)
    rw [show k + (i + 1) + 1 = k + 1 + i + 1 by lia] at this
    exact this)
   refine ⟨δ2, ?_, by rw [List.length_cons, show k + (ds.length + 1) = k + 1 + ds.length by lia]; exact h2⟩
   rw [forD, e1, Option.bind_some, e2, Option.bind_some]
   exact e3
theorem for_inv {α : Type} {t : D -> DS -> Option DS} {b : DS -> Option Res} (enc : α -> D) (W : Nat -> DS -> Prop) (xs : List α) {δ : DS} (h : W 0 δ)
  (hs : ∀ i x δ, xs[i]? = some x -> W i δ -> ∃ δ1 δ', t (enc x) δ = some δ1 /\ b δ1 = some (.nx δ') /\ W (i + 1) δ') : ∃ δ', forD t b (xs.map enc) δ = some (.nx δ') /\ W xs.length δ' := by
 obtain ⟨δ', e, w⟩ := forD_inv (t := t) (b := b) W (xs.map enc) 0 h (fun i d δ e w => by
  rw [List.getElem?_map] at e
  cases ex : xs[i]? with
  | none => rw [ex] at e; cases e
  | some x =>
    rw [ex] at e; cases e
    rw [Nat.zero_add] at w ⊢
    exact hs i x δ ex w)
 rw [Nat.zero_add, List.length_map] at w
 exact ⟨δ', e, w⟩
theorem forR_inv {t : D -> DS -> Option DS} {b : DS -> Option Res} {lo : Int} {n : Nat} (W : Nat -> DS -> Prop) {δ : DS} (h : W 0 δ)
  (hs : ∀ i δ, i < n -> W i δ -> ∃ δ1 δ', t (.int (lo + i)) δ = some δ1 /\ b δ1 = some (.nx δ') /\ W (i + 1) δ') : ∃ δ', forD t b (rangeD lo n) δ = some (.nx δ') /\ W n δ' := by
 obtain ⟨δ', e, w⟩ := for_inv (t := t) (b := b) (fun k : Nat => PyData.int (lo + k)) W (List.range n) h (fun i x δ e w => by
  have hi := (List.getElem?_eq_some_iff.mp e).1
  rw [List.length_range] at hi
  rw [List.getElem?_range hi] at e
  cases e
  exact hs i δ hi w)
 rw [List.length_range] at w
 exact ⟨δ', e, w⟩
theorem seq_while {c : DS -> Option Bool} {b rest : DS -> Option Res} {β : Type} {f : Res -> Option β} {R : β -> Prop} {δ : DS} (W : Nat -> DS -> Prop) (Z : DS -> Prop) (m : Nat) (h : W m δ)
  (hs : ∀ m δ, W m δ -> (c δ = some false /\ Z δ) \/ (c δ = some true /\ ∃ δ' m', b δ = some (.nx δ') /\ m' < m /\ W m' δ')) (k : ∀ δ', Z δ' -> Gets ((rest δ').bind f) R) : Gets ((gSeq (gWhile c b) rest δ).bind f) R := by
 obtain ⟨δ', h1, h2⟩ := gWhile_inv W Z m h hs
 rw [gSeq_of h1]
 exact k δ' h2
theorem seq_for {α : Type} {t : D -> DS -> Option DS} {gi : DS -> Option (List D)} {b rest : DS -> Option Res} {β : Type} {f : Res -> Option β} {R : β -> Prop} {δ : DS} (enc : α -> D) (xs : List α) (W : Nat -> DS -> Prop) (hi : gi δ = some (xs.map enc)) (h : W 0 δ)
  (hs : ∀ i x δ, xs[i]? = some x -> W i δ -> ∃ δ1 δ', t (enc x) δ = some δ1 /\ b δ1 = some (.nx δ') /\ W (i + 1) δ') (k : ∀ δ', W xs.length δ' -> Gets ((rest δ').bind f) R) : Gets ((gSeq (gFor gi t b) rest δ).bind f) R := by
 obtain ⟨δ', h1, h2⟩ := for_inv (t := t) (b := b) enc W xs h hs
 rw [gSeq_of (δ' := δ') (by unfold gFor; rw [hi]; exact h1)]
 exact k δ' h2
theorem seq_forR {t : D -> DS -> Option DS} {gi : DS -> Option (List D)} {b rest : DS -> Option Res} {β : Type} {f : Res -> Option β} {R : β -> Prop} {δ : DS} (lo : Int) (n : Nat) (W : Nat -> DS -> Prop) (hi : gi δ = some (rangeD lo n)) (h : W 0 δ)
  (hs : ∀ i δ, i < n -> W i δ -> ∃ δ1 δ', t (.int (lo + i)) δ = some δ1 /\ b δ1 = some (.nx δ') /\ W (i + 1) δ') (k : ∀ δ', W n δ' -> Gets ((rest δ').bind f) R) : Gets ((gSeq (gFor gi t b) rest δ).bind f) R := by
 obtain ⟨δ', h1, h2⟩ := forR_inv (t := t) (b := b) W h hs
 rw [gSeq_of (δ' := δ') (by unfold gFor; rw [hi]; exact h1)]
 exact k δ' h2
theorem seq_st {a rest : DS -> Option Res} {β : Type} {f : Res -> Option β} {R : β -> Prop} {δ : DS} (δ' : DS) (h : a δ = some (.nx δ')) (k : Gets ((rest δ').bind f) R) : Gets ((gSeq a rest δ).bind f) R := by
 rw [gSeq_of h]; exact k
theorem seq_no {c : DS -> Option Bool} {a rest : DS -> Option Res} {β : Type} {f : Res -> Option β} {R : β -> Prop} {δ : DS} (h : c δ = some false) (k : Gets ((rest δ).bind f) R) : Gets ((gSeq (gIf c a gSkip) rest δ).bind f) R := by
 rw [gSeq_of (δ' := δ) (by unfold gIf; rw [h]; rfl)]; exact k
theorem seq_iff {c : DS -> Option Bool} {a b rest : DS -> Option Res} {β : Type} {f : Res -> Option β} {R : β -> Prop} {δ : DS} (x : Bool) (h : c δ = some x) (k1 : x = true -> Gets ((gSeq a rest δ).bind f) R) (k2 : x = false -> Gets ((gSeq b rest δ).bind f) R) : Gets ((gSeq (gIf c a b) rest δ).bind f) R := by
 have e : gIf c a b δ = if x = true then a δ else b δ := by unfold gIf; rw [h]; rfl
 cases x with
 | true => rw [if_pos rfl] at e; have := k1 rfl; unfold gSeq at this ⊢; rw [e]; exact this
 | false => rw [if_neg Bool.false_ne_true] at e; have := k2 rfl; unfold gSeq at this ⊢; rw [e]; exact this
theorem seq_ret {g : DS -> Option D} {rest : DS -> Option Res} {β : Type} {f : Res -> Option β} {R : β -> Prop} {δ : DS} (d : D) (h : g δ = some d) (k : Gets (f (.rt d)) R) : Gets ((gSeq (gRet g) rest δ).bind f) R := by
 rw [gSeq_rt (d := d) (by unfold gRet; rw [h]; rfl)]; exact k
theorem ret {g : DS -> Option D} {β : Type} {f : Res -> Option β} {R : β -> Prop} {δ : DS} (d : D) (h : g δ = some d) (k : Gets (f (.rt d)) R) : Gets ((gRet g δ).bind f) R := by
 unfold gRet; rw [h]; exact k
theorem st_seq {a b : DS -> Option Res} {δ : DS} {r : Option Res} (δ' : DS) (h : a δ = some (.nx δ')) (k : b δ' = r) : gSeq a b δ = r := (gSeq_of h).trans k
theorem st_no {c : DS -> Option Bool} {a : DS -> Option Res} {δ : DS} (h : c δ = some false) : gIf c a gSkip δ = some (.nx δ) := by unfold gIf; rw [h]; rfl
theorem seq_skip {rest : DS -> Option Res} {δ : DS} : gSeq gSkip rest δ = rest δ := rfl
theorem seq_assoc {a b c : DS -> Option Res} {δ : DS} : gSeq (gSeq a b) c δ = gSeq a (gSeq b c) δ := by
 unfold gSeq
 cases a δ with
 | none => rfl
 | some r => cases r <;> rfl
theorem mapD_of {α β : Type} {f : D -> Option D} (enc : α -> D) (enc' : β -> D) (h : α -> β) : ∀ (l : List α), (∀ a ∈ l, f (enc a) = some (enc' (h a))) -> mapD f (l.map enc) = some ((l.map h).map enc')
 | [], _ => rfl
 | a :: l, hf => by
   rw [List.map_cons, mapD, hf a List.mem_cons_self, Option.bind_some, mapD_of enc enc' h l fun b hb => hf b (List.mem_cons_of_mem _ hb)]
   rfl
theorem comp_of {α β : Type} (enc : α -> D) (enc' : β -> D) (h : α -> β) {gi : DS -> Option (List D)} {ix : List Nat} {ge : DS -> Option D} {δ : DS} (l : List α) (hi : gi δ = some (l.map enc)) (hn : l.length <= 100000)
  (hf : ∀ a ∈ l, ge (some (enc a) :: captD ix δ) = some (enc' (h a))) : gComp gi ix ge δ = some ((l.map h).map enc') := by
 unfold gComp
 rw [hi, Option.bind_some, if_pos (by rw [List.length_map]; exact hn)]
 exact mapD_of enc enc' h l hf
theorem cutD_map {α : Type} (enc : α -> D) (l : List α) (lo hi : Option Int) : ∃ m : List α, cutD (l.map enc) lo hi = m.map enc /\ m.length <= l.length /\ ∀ a ∈ m, a ∈ l := by
 unfold cutD
 refine ⟨(l.drop _).take _, by rw [List.map_take, List.map_drop, List.length_map], ?_, fun a h => List.mem_of_mem_drop (List.mem_of_mem_take h)⟩
 rw [List.length_take, List.length_drop]; lia
theorem isi_i_i (i : Int) : dIsi "int" [.int i] = some (.bool true) := rfl
theorem isi_i_b (i : Int) : dIsi "bool" [.int i] = some (.bool false) := rfl
theorem dEq_ii (a b : Int) : dEq (.int a) (.int b) = some (.bool (decide (a = b))) := rfl
theorem dNe_of {a b : D} {c : Bool} (h : dEq a b = some (.bool c)) : dNe a b = some (.bool (!c)) := by unfold dNe; rw [h]; rfl
theorem range1_of {g : DS -> Option (List D)} {δ : DS} {n : Nat} (h : g δ = some [.int (n : Nat)]) (hn : n <= 100000) : gRange1 g δ = some (rangeD 0 n) := by
 unfold gRange1
 rw [h, Option.bind_some]
 show (if -(2 ^ 62) <= ((n : Nat) : Int) /\ ((n : Nat) : Int) < 2 ^ 62 then some (rangeD 0 ((n : Nat) : Int).toNat) else none) = _
 rw [Int.toNat_natCast, if_pos ⟨by lia, by lia⟩]
theorem call_of {G : List D -> Option D} {n : Nat} {g : DS -> Option (List D)} {δ : DS} {ds : List D} {r : Option D} (h : g δ = some ds) (hn : ds.length = n) (hG : G ds = r) : gCall G n g δ = r := by
 unfold gCall; rw [h, Option.bind_some, if_pos hn]; exact hG
theorem callN_of {G : List D -> Option (List D)} {n : Nat} {g : DS -> Option (List D)} {δ : DS} {ds : List D} {r : Option (List D)} (h : g δ = some ds) (hn : ds.length = n) (hG : G ds = r) : gCallN G n g δ = r := by
 unfold gCallN; rw [h, Option.bind_some, if_pos hn]; exact hG
theorem lst_of {g : DS -> Option (List D)} {δ : DS} {l : List D} (h : g δ = some l) : gLst g δ = some (.list l) := by unfold gLst; rw [h]; rfl
theorem cons_of {a : DS -> Option D} {r : DS -> Option (List D)} {δ : DS} {x : D} {xs : List D} (h : a δ = some x) (h2 : r δ = some xs) : gConsA a r δ = some (x :: xs) := by unfold gConsA; rw [h, h2]; rfl
theorem set_of {i : Nat} {g : DS -> Option D} {δ : DS} {d : D} (h : g δ = some d) : gSet i g δ = some (.nx (δ.set i (some d))) := by unfold gSet; rw [h]; rfl
theorem setN_of {i : Nat} {g : DS -> Option (List D)} {δ : DS} {d : List D} (h : g δ = some d) : gSetN i g δ = some (.nx (δ.set i (some (.list d)))) := by unfold gSetN; rw [h]; rfl
theorem dLen_l (l : List D) : dLen [.list l] = some (.int l.length) := rfl
theorem dIx_l (l : List D) (i : Int) : dIx (.list l) (.int i) = atI l i := rfl
theorem or_of {a b : DS -> Option Bool} {δ : DS} {r : Option Bool} (h1 : a δ = some false) (h2 : b δ = r) : gOr a b δ = r := by unfold gOr; rw [h1]; exact h2
theorem and_of {a b : DS -> Option Bool} {δ : DS} {r : Option Bool} (h1 : a δ = some true) (h2 : b δ = r) : gAnd a b δ = r := by unfold gAnd; rw [h1]; exact h2
theorem not_of' {a : DS -> Option Bool} {δ : DS} {x : Bool} (h : a δ = some x) : gNot a δ = some (!x) := by unfold gNot; rw [h]; rfl
theorem gB_of {g : DS -> Option D} {δ : DS} {b : Bool} (h : g δ = some (.bool b)) : gB g δ = some b := by unfold gB; rw [h]; rfl
theorem gTru_of {g : DS -> Option D} {δ : DS} {b : Bool} (h : g δ = some (.bool b)) : gTru g δ = some b := by unfold gTru; rw [h]; rfl
theorem g2_of {f : D -> D -> Option D} {a b : DS -> Option D} {δ : DS} {x y : D} {r : Option D} (h1 : a δ = some x) (h2 : b δ = some y) (h3 : f x y = r) : g2 f a b δ = r := by unfold g2; rw [h1, h2]; exact h3
theorem andV_of {a b : DS -> Option D} {δ : DS} {r : Option D} (h1 : a δ = some (.bool true)) (h2 : b δ = r) : gAndV a b δ = r := by unfold gAndV; rw [gB_of h1]; exact h2
end MyLaw
namespace MyLaw
open PySem L2 Q1
noncomputable abbrev CSX : List Str := ["NoPlan", "TooLong"]
noncomputable abbrev TSX : List Str := ["NoNumber", "NoPlan", "TooLong", "NoText", "NoEnd", "TooMany", "NoRow", "NoTelling", "NoLot", "NotOnly", "Only", "NoShares", "NoDeed", "NoName", "NoDraw"]
noncomputable abbrev g_led_to : DS -> Option Res := (gRet (gLst (gSS (gLst (g2N dCat (gLst (gB1N dListN (gConsA (gVar 0) gNilA))) (gLst (gComp (gItems (gVar 0)) [] (g2 dAddV (gVar 0) (gC (.int (1)))))))))))
noncomputable def G_led_to : List D -> Option (List D) := gDefN 1 g_led_to
theorem E_led_to (a0 : D) : G_led_to [a0] = (g_led_to [some a0]).bind gOutN := rfl
noncomputable abbrev r_plan_while (f : Addr) (c : Ca) (q : Str) (G : List D -> Option D) : DS -> Option Res := (gSeq (gSetN 1 (gLstN gNilA))
  (gSeq (gSet 2 (gLst (gLstN (gConsA (gC (.int (0))) gNilA))))
  (gWhile (gTru (gC (.bool true))) (gSeq (gSet 3 (gB1 dLen (gConsA (gVar 1) gNilA)))
  (gSeq (gSet 4 (gLst (gCompL (gItems (gVar 2)) 1 [0, 3] (gName' 0) (gTru (gCallV f c q G 2 1 (gConsA (gVar 0) (gConsA (gVar 2) gNilA)))) (gVar 0))))
  (gSeq (gIf (gB (g2 dEq (gB1 dLen (gConsA (gVar 4) gNilA)) (gC (.int (0))))) (gRet (gB1 dTupleOf (gConsA (gVar 1) gNilA))) gSkip)
  (gSeq (gIf (gB (g2 dEq (gVar 3) (gC (.int (24))))) (gRaise "TooLong") gSkip)
  (gSeq (gApp 1 (gB1 dTupleOf (gConsA (gVar 4) gNilA)))
  (gSet 2 (gLst (gCallN G_led_to 1 (gConsA (gVar 4) gNilA))))))))))))
noncomputable def R_plan_while (f : Addr) (c : Ca) (q : Str) (G : List D -> Option D) : List D -> Option D := gDef 5 (r_plan_while f c q G)
theorem ER_plan_while (f : Addr) (c : Ca) (q : Str) (G : List D -> Option D) (a0 : D) : R_plan_while f c q G [a0] = (r_plan_while f c q G [some a0, none, none, none, none]).bind gOut := rfl
noncomputable abbrev r_plan_from : DS -> Option Res := (gSeq (gSetD 1 gDnew)
  (gSeq (gFor (gItems (gVar 0)) (gName' 2)
   (gSetK 1 (gVar 2) (gC (.bool true))))
  (gSeq (gIf (gB (gDin false (gTupD (gConsA (gC (.int (0))) (gConsA (gC (.int (0))) gNilA))) (gVar 1))) (gRaise "NoPlan") gSkip)
  (gRet (gPWd R_plan_while "plan_from.<locals>.<lambda>" 1 (gDinF (gTupD (gConsA (gVar 0) (gConsA (g2 dSub (gVar 1) (gVar 0)) gNilA))) (gVar 2)))))))
noncomputable def R_plan_from : List D -> Option D := gDef 3 r_plan_from
theorem ER_plan_from (a0 : D) : R_plan_from [a0] = (r_plan_from [some a0, none, none]).bind gOut := rfl
noncomputable abbrev g_law_cell : DS -> Option Res := (gSeq (gIf (gB (g2 dLt (gVar 1) (gB1 dLen (gConsA (gVar 0) gNilA)))) (gRet (g2 dIx (gVar 0) (gVar 1))) gSkip)
  (gRet (gC (.int (0)))))
noncomputable def G_law_cell : List D -> Option D := gDef 2 g_law_cell
theorem E_law_cell (a0 a1 : D) : G_law_cell [a0, a1] = (g_law_cell [some a0, some a1]).bind gOut := rfl
noncomputable abbrev g_law_digits : DS -> Option Res := (gSeq (gSetN 3 (gLstN gNilA))
  (gSeq (gFor (gRange1 (gConsA (gVar 2) gNilA)) (gName' 4)
   (gSeq (gApp 3 (g2 dMod (gVar 0) (gVar 1)))
  (gSet 0 (g2 dDiv (gVar 0) (gVar 1)))))
  (gRet (gVar 3))))
noncomputable def G_law_digits : List D -> Option (List D) := gDefN 5 g_law_digits
theorem E_law_digits (a0 a1 a2 : D) : G_law_digits [a0, a1, a2] = (g_law_digits [some a0, some a1, some a2, none, none]).bind gOutN := rfl
noncomputable abbrev g_law_mixes : DS -> Option Res := (gSeq (gSetN 3 (gLstN gNilA))
  (gSeq (gFor (gRange1 (gConsA (gVar 2) gNilA)) (gName' 4)
   (gSeq (gSet 5 (g2 dMod (g2 dAddV (g2 dAddV (g2 dMulI (g2 dMod (gVar 0) (gC (.int (1000003)))) (gC (.int (48271)))) (g2 dMulI (g2 dMulI (gVar 4) (gVar 4)) (gC (.int (69621))))) (g2 dMulI (gVar 4) (gC (.int (16807))))) (gC (.int (2147483647)))))
  (gApp 3 (g2 dMod (g2 dDiv (g2 dMod (g2 dAddV (g2 dMulI (gVar 5) (gC (.int (39373)))) (gVar 0)) (gC (.int (2147483629)))) (gC (.int (13)))) (gVar 1)))))
  (gRet (gVar 3))))
noncomputable def G_law_mixes : List D -> Option (List D) := gDefN 6 g_law_mixes
theorem E_law_mixes (a0 a1 a2 : D) : G_law_mixes [a0, a1, a2] = (g_law_mixes [some a0, some a1, some a2, none, none, none]).bind gOutN := rfl
noncomputable abbrev g_law_plan : DS -> Option Res := (gSeq (gSet 2 (g2 dDiv (gVar 0) (gC (.int (4)))))
  (gSeq (gSet 3 (g2 dAddV (gC (.int (100))) (g2 dMulI (gC (.int (200))) (gB1 dInt (gConsA (g2 dGt (gVar 1) (gC (.int (12)))) gNilA)))))
  (gSeq (gSet 4 (gLst (gCallN G_law_mixes 3 (gConsA (gVar 2) (gConsA (gC (.int (3))) (gConsA (gVar 3) gNilA))))))
  (gSeq (gIf (gB (g2 dGe (gB1 dAbs (gConsA (gVar 0) gNilA)) (g2 dPow (gC (.int (10))) (gC (.int (18)))))) (gSet 4 (gLst (gCallN G_law_digits 3 (gConsA (gVar 2) (gConsA (gC (.int (3))) (gConsA (gVar 3) gNilA)))))) gSkip)
  (gSeq (gSetN 5 (gLstN (gConsA (gTupD (gConsA (gC (.int (0))) gNilA)) gNilA)))
  (gSeq (gSet 6 (gLst (gLstN (gConsA (gC (.int (0))) (gConsA (gC (.int (1))) gNilA)))))
  (gSeq (gSet 7 (gC (.int (0))))
  (gSeq (gWhile (gAnd (gB (g2 dLt (gB1 dLen (gConsA (gVar 5) gNilA)) (gVar 1))) (gB (g2 dGt (gB1 dLen (gConsA (gVar 6) gNilA)) (gC (.int (0)))))) (gSeq (gSet 8 (gLst (gCompL (gEnumerate (gVar 6)) 2 [4, 3, 7] (gTupT 2 (gConsT (gName' 0) (gConsT (gName' 1) gNilT))) (gB (g2 dGt (g2 dIx (gVar 2) (g2 dMod (g2 dAddV (gVar 4) (gVar 0)) (gVar 3))) (gC (.int (0))))) (gVar 1))))
  (gSeq (gSet 7 (g2 dAddV (gVar 7) (gB1 dLen (gConsA (gVar 6) gNilA))))
  (gSeq (gIf (gB (g2 dGt (g2 dMod (gVar 0) (gC (.int (4)))) (gC (.int (1))))) (gSet 8 (gLst (gSlL (gVar 6) (gPart (g2 dIx (gVar 4) (g2 dMod (gVar 7) (gVar 3)))) (gPart (gB1 dMax2 (gConsA (gC (.int (0))) (gConsA (g2 dSub (gB1 dLen (gConsA (gVar 6) gNilA)) (g2 dIx (gVar 4) (g2 dMod (g2 dAddV (gVar 7) (gC (.int (1)))) (gVar 3)))) gNilA))))))) gSkip)
  (gSeq (gSet 6 (gLst (gSS (gLst (g2N dCat (gVar 8) (gLst (gComp (gItems (gVar 8)) [] (g2 dAddV (gVar 0) (gC (.int (1)))))))))))
  (gIf (gB (g2 dGt (gB1 dLen (gConsA (gVar 8) gNilA)) (gC (.int (0))))) (gApp 5 (gB1 dTupleOf (gConsA (gVar 8) gNilA))) gSkip))))))
  (gRet (gB1 dTupleOf (gConsA (gVar 5) gNilA)))))))))))
noncomputable def G_law_plan : List D -> Option D := gDef 9 g_law_plan
theorem E_law_plan (a0 a1 : D) : G_law_plan [a0, a1] = (g_law_plan [some a0, some a1, none, none, none, none, none, none, none]).bind gOut := rfl
noncomputable abbrev g_law_most : DS -> Option Res := (gSeq (gIf (gB (g2 dEq (g2 dMod (g2 dDiv (gVar 0) (gC (.int (7)))) (gC (.int (8)))) (gC (.int (1))))) (gRet (g2 dAddV (gC (.int (1))) (g2 dMod (g2 dDiv (gVar 0) (gC (.int (56)))) (gC (.int (12)))))) gSkip)
  (gRet (g2 dAddV (gC (.int (1))) (g2 dMod (gVar 0) (gC (.int (7)))))))
noncomputable def G_law_most : List D -> Option D := gDef 1 g_law_most
theorem E_law_most (a0 : D) : G_law_most [a0] = (g_law_most [some a0]).bind gOut := rfl
noncomputable abbrev g_law_whole : DS -> Option Res := (gRet (gAndV (gIsi "int" (gVar 0)) (g1 dNot (gIsi "bool" (gVar 0)))))
noncomputable def G_law_whole : List D -> Option D := gDef 1 g_law_whole
theorem E_law_whole (a0 : D) : G_law_whole [a0] = (g_law_whole [some a0]).bind gOut := rfl
noncomputable abbrev g_law_due : DS -> Option Res := (gSeq (gIf (gB (g2 (dInT true) (gTupD (gConsA (gC (.int (0))) (gConsA (gC (.int (0))) gNilA))) (gVar 0))) (gRet (gC (.str "NoPlan"))) gSkip)
  (gSeq (gSetD 1 (gDisp1 (gTupD (gConsA (gC (.int (0))) (gConsA (gC (.int (0))) gNilA))) (gC (.bool true))))
  (gSeq (gSetN 2 (gLstN gNilA))
  (gSeq (gFor (gRange1 (gConsA (gC (.int (40))) gNilA)) (gName' 3)
   (gSeq (gSetN 4 (gLstN gNilA))
  (gSeq (gFor (gRange1 (gConsA (g2 dAddV (gVar 3) (gC (.int (1)))) gNilA)) (gName' 5)
   (gIf (gAnd (gB (gDin true (gTupD (gConsA (gVar 5) (gConsA (g2 dSub (gVar 3) (gVar 5)) gNilA))) (gVar 1))) (gB (g2 (dInT false) (gTupD (gConsA (gVar 5) (gConsA (g2 dSub (gVar 3) (gVar 5)) gNilA))) (gVar 0)))) (gSeq (gApp 4 (gVar 5))
  (gSeq (gSetK 1 (gTupD (gConsA (g2 dAddV (gVar 5) (gC (.int (1)))) (gConsA (g2 dSub (gVar 3) (gVar 5)) gNilA))) (gC (.bool true)))
  (gSetK 1 (gTupD (gConsA (gVar 5) (gConsA (g2 dAddV (g2 dSub (gVar 3) (gVar 5)) (gC (.int (1)))) gNilA))) (gC (.bool true))))) gSkip))
  (gSeq (gIf (gB (g2 dEq (gVar 4) (gLst (gLstN gNilA)))) (gRet (gB1 dTupleOf (gConsA (gVar 2) gNilA))) gSkip)
  (gSeq (gIf (gB (g2 dEq (gVar 3) (gC (.int (24))))) (gRet (gC (.str "TooLong"))) gSkip)
  (gApp 2 (gB1 dTupleOf (gConsA (gVar 4) gNilA))))))))
  (gRet (gB1 dTupleOf (gConsA (gVar 2) gNilA)))))))
noncomputable def G_law_due : List D -> Option D := gDef 6 g_law_due
theorem E_law_due (a0 : D) : G_law_due [a0] = (g_law_due [some a0, none, none, none, none, none]).bind gOut := rfl
noncomputable abbrev w_law_word (y : Addr) : DS -> Option Res := (gSeq (gSet 1 (gLst (gLstN (gConsA (gIsiX CSX "NoNumber" (gVar 0)) (gConsA (gIsiX CSX "NoPlan" (gVar 0)) (gConsA (gIsiX CSX "TooLong" (gVar 0)) (gConsA (gIsiX CSX "NoText" (gVar 0)) gNilA)))))))
  (gSeq (gSet 1 (gLst (g2N dCat (gVar 1) (gLst (gLstN (gConsA (gIsiX CSX "NoEnd" (gVar 0)) (gConsA (gIsiX CSX "TooMany" (gVar 0)) (gConsA (gIsiX CSX "NoRow" (gVar 0)) (gConsA (gIsiX CSX "NoTelling" (gVar 0)) gNilA)))))))))
  (gSeq (gSet 1 (gLst (g2N dCat (gVar 1) (gLst (gLstN (gConsA (gIsiX CSX "NoLot" (gVar 0)) (gConsA (gIsiX CSX "NotOnly" (gVar 0)) (gConsA (gIsiX CSX "Only" (gVar 0)) (gConsA (gIsiX CSX "NoShares" (gVar 0)) gNilA)))))))))
  (gSeq (gSet 1 (gLst (g2N dCat (gVar 1) (gLst (gLstN (gConsA (gIsiX CSX "NoDeed" (gVar 0)) (gConsA (gIsiX CSX "NoName" (gVar 0)) (gConsA (gIsiX CSX "NoDraw" (gVar 0)) gNilA))))))))
  (gSeq (gSet 2 (gLst (gLstN (gStrs ["NoNumber", "NoPlan", "TooLong", "NoText", "NoEnd", "TooMany", "NoRow", "NoTelling", "NoLot", "NotOnly"]))))
  (gSeq (gSet 2 (gLst (g2N dCat (gVar 2) (gLst (gLstN (gStrs ["Only", "NoShares", "NoDeed", "NoName", "NoDraw"]))))))
  (gSeq (gSet 3 (gLst (gCompL (gRange1X y 0 (gConsA (gC (.int (15))) gNilA)) 1 [2, 1] (gName' 0) (gTru (g2 dIx (gVar 2) (gVar 0))) (g2 dIx (gVar 1) (gVar 0)))))
  (gSeq (gIf (gOr (gB (g2 dNe (gB1 dLen (gConsA (gVar 3) gNilA)) (gC (.int (1))))) (gNot (gTru (gIsiX CSX "ValueError" (gVar 0))))) (gRet (gC (.str "else"))) gSkip)
  (gRet (g2 dIx (gVar 3) (gC (.int (0)))))))))))))
noncomputable def W_law_word (y : Addr) : List D -> Option D := gDef 4 (w_law_word y)
theorem pre_word (a : Addr) (c : Str) (R : DS -> Option Res) (hc : c ∈ CSX) : (gSeq (gSet 1 (gLst (gLstN (gConsA (gIsiX CSX "NoNumber" (gVar 0)) (gConsA (gIsiX CSX "NoPlan" (gVar 0)) (gConsA (gIsiX CSX "TooLong" (gVar 0)) (gConsA (gIsiX CSX "NoText" (gVar 0)) gNilA)))))))
  (gSeq (gSet 1 (gLst (g2N dCat (gVar 1) (gLst (gLstN (gConsA (gIsiX CSX "NoEnd" (gVar 0)) (gConsA (gIsiX CSX "TooMany" (gVar 0)) (gConsA (gIsiX CSX "NoRow" (gVar 0)) (gConsA (gIsiX CSX "NoTelling" (gVar 0)) gNilA)))))))))
  (gSeq (gSet 1 (gLst (g2N dCat (gVar 1) (gLst (gLstN (gConsA (gIsiX CSX "NoLot" (gVar 0)) (gConsA (gIsiX CSX "NotOnly" (gVar 0)) (gConsA (gIsiX CSX "Only" (gVar 0)) (gConsA (gIsiX CSX "NoShares" (gVar 0)) gNilA)))))))))
  (gSeq (gSet 1 (gLst (g2N dCat (gVar 1) (gLst (gLstN (gConsA (gIsiX CSX "NoDeed" (gVar 0)) (gConsA (gIsiX CSX "NoName" (gVar 0)) (gConsA (gIsiX CSX "NoDraw" (gVar 0)) gNilA))))))))
  (gSeq (gSet 2 (gLst (gLstN (gStrs ["NoNumber", "NoPlan", "TooLong", "NoText", "NoEnd", "TooMany", "NoRow", "NoTelling", "NoLot", "NotOnly"]))))
  (gSeq (gSet 2 (gLst (g2N dCat (gVar 2) (gLst (gLstN (gStrs ["Only", "NoShares", "NoDeed", "NoName", "NoDraw"])))))) R)))))) [some (exD a c), none, none, none] = R [some (exD a c), some (.list (TSX.map fun T => .bool (isX c T))), some (.list (TSX.map .str)), none] := by
 rcases List.mem_cons.mp hc with rfl | hc
 ·kernel_rfl
 rcases List.mem_cons.mp hc with rfl | hc
 ·kernel_rfl
 cases hc
theorem word_NoPlan (a : Addr) : W_law_word a [exD a "NoPlan"] = some (.str "NoPlan") := by
 refine Eq.trans (congrArg (fun r => Option.bind r gOut) ((pre_word a "NoPlan" _ (by simp)).trans (seq_gi (set_gi (compL_gi (gRange1X_self rfl)))))) ?_
 kernel_rfl
theorem word_TooLong (a : Addr) : W_law_word a [exD a "TooLong"] = some (.str "TooLong") := by
 refine Eq.trans (congrArg (fun r => Option.bind r gOut) ((pre_word a "TooLong" _ (by simp)).trans (seq_gi (set_gi (compL_gi (gRange1X_self rfl)))))) ?_
 kernel_rfl
theorem v_word (a : Addr) (c : Str) (hc : c ∈ CSX) : W_law_word a [exD a c] = some (.str c) := by
 rcases List.mem_cons.mp hc with rfl | hc
 ·exact word_NoPlan a
 rcases List.mem_cons.mp hc with rfl | hc
 ·exact word_TooLong a
 cases hc
noncomputable abbrev x_law_made (a : Addr) : DS -> Option Res := (gRet (gCall (W_law_word a) 1 (gConsA (gVar 2) gNilA)))
theorem hh_law_made (a : Addr) (c : Str) (d : D) (h : handOf CSX (fun c => .str c) c = some d) : x_law_made a ((List.replicate 3 none).set 2 (some (exD a c))) = some (.rt d) := by
 obtain ⟨hc, rfl⟩ := handOf_some h
 exact hand_by rfl (v_word a c hc)
noncomputable abbrev g_law_made : DS -> Option Res := (gSeq (gTry (gSetR 1 (gCall R_plan_from 1 (gConsA (gVar 0) gNilA))) (handOf CSX (fun c => .str c)))
  (gRet (gVar 1)))
noncomputable def G_law_made : List D -> Option D := gDef 3 g_law_made
theorem E_law_made (a0 : D) : G_law_made [a0] = (g_law_made [some a0, none, none]).bind gOut := rfl
noncomputable abbrev g_law_like : DS -> Option Res := (gSeq (gIf (gTru (gIsi "str" (gVar 1))) (gRet (gAndV (gIsi "str" (gVar 0)) (g2 dEq (gVar 0) (gVar 1)))) gSkip)
  (gSeq (gIf (gOr (gNot (gTru (gIsi "tuple" (gVar 0)))) (gB (g2 dNe (gVar 0) (gVar 1)))) (gRet (gC (.bool false))) gSkip)
  (gSeq (gFor (gItems (gVar 0)) (gName' 2)
   (gIf (gOr (gNot (gTru (gIsi "tuple" (gVar 2)))) (gNot (gTru (gB1 dAll (gConsA (gLst (gComp (gItems (gVar 2)) [] (gCall G_law_whole 1 (gConsA (gVar 0) gNilA)))) gNilA))))) (gRet (gC (.bool false))) gSkip))
  (gRet (gC (.bool true))))))
noncomputable def G_law_like : List D -> Option D := gDef 3 g_law_like
theorem E_law_like (a0 a1 : D) : G_law_like [a0, a1] = (g_law_like [some a0, some a1, none]).bind gOut := rfl
noncomputable abbrev g_law_counts : DS -> Option Res := (gSeq (gSet 2 (gCall G_law_cell 2 (gConsA (gVar 0) (gConsA (gC (.int (2))) gNilA))))
  (gSeq (gIf (gB (g2 dEq (gVar 1) (gC (.int (0))))) (gSeq (gSet 3 (gLst (gCallN G_law_digits 3 (gConsA (gVar 2) (gConsA (gC (.int (2))) (gConsA (gC (.int (60))) gNilA))))))
  (gSeq (gIf (gB (gChain dLt dLt (g1 dNeg (g2 dPow (gC (.int (10))) (gC (.int (18))))) (gVar 2) (g2 dPow (gC (.int (10))) (gC (.int (18)))))) (gSet 3 (gLst (gCallN G_law_mixes 3 (gConsA (gVar 2) (gConsA (gC (.int (2))) (gConsA (gC (.int (60))) gNilA)))))) gSkip)
  (gRet (gLst (gCompL (gRange1 (gConsA (gC (.int (60))) gNilA)) 1 [3] (gName' 0) (gOr (gB (g2 dEq (g2 dIx (gVar 1) (gVar 0)) (gC (.int (1))))) (gB (g2 dEq (gVar 0) (gC (.int (0)))))) (gTupD (gConsA (g2 dMod (gVar 0) (gC (.int (8)))) (gConsA (g2 dDiv (gVar 0) (gC (.int (8)))) gNilA)))))))) gSkip)
  (gSeq (gIf (gB (g2 dEq (gVar 1) (gC (.int (1))))) (gRet (gLst (g2N dCat (gLst (gComp (gItems (gLst (gSlL (gVar 0) (gPart (gC (.int (2)))) (gPart (gC (.int (62))))))) [] (gTupD (gConsA (g2 dMod (gVar 0) (gC (.int (6)))) (gConsA (g2 dMod (g2 dDiv (gVar 0) (gC (.int (6)))) (gC (.int (6)))) gNilA))))) (gLst (gLstN (gConsA (gTupD (gConsA (gC (.int (0))) (gConsA (gC (.int (0))) gNilA))) gNilA)))))) gSkip)
  (gSeq (gIf (gB (g2 dEq (gVar 1) (gC (.int (2))))) (gSeq (gSet 4 (g2 dMod (gVar 2) (gC (.int (25)))))
  (gRet (gLst (gComp (gRange1 (gConsA (g2 dAddV (gC (.int (20))) (g2 dMod (g2 dDiv (gVar 2) (gC (.int (25)))) (gC (.int (8))))) gNilA)) [4] (gTupD (gConsA (gB1 dMin2 (gConsA (gVar 0) (gConsA (gVar 1) gNilA))) (gConsA (gB1 dMax2 (gConsA (gC (.int (0))) (gConsA (g2 dSub (gVar 0) (gVar 1)) gNilA))) gNilA))))))) gSkip)
  (gSeq (gSet 5 (gCall G_law_plan 2 (gConsA (gCall G_law_cell 2 (gConsA (gVar 0) (gConsA (gC (.int (0))) gNilA))) (gConsA (gCall G_law_most 1 (gConsA (gCall G_law_cell 2 (gConsA (gVar 0) (gConsA (gC (.int (1))) gNilA))) gNilA)) gNilA))))
  (gSeq (gSetN 6 (gLstN gNilA))
  (gSeq (gFor (gEnumT (gVar 5)) (gTupT 2 (gConsT (gName' 7) (gConsT (gName' 8) gNilT)))
   (gExt 6 (gComp (gItems (gVar 8)) [7] (gTupD (gConsA (gVar 0) (gConsA (g2 dSub (gVar 1) (gVar 0)) gNilA))))))
  (gRet (gLst (g2N dCat (gVar 6) (gLst (gComp (gItems (gLst (gSlL (gVar 0) (gPart (gC (.int (3)))) (gPart (gC (.int (12))))))) [] (gTupD (gConsA (g2 dMod (gVar 0) (gC (.int (9)))) (gConsA (g2 dMod (g2 dDiv (gVar 0) (gC (.int (9)))) (gC (.int (9)))) gNilA)))))))))))))))
noncomputable def G_law_counts : List D -> Option (List D) := gDefN 9 g_law_counts
theorem E_law_counts (a0 a1 : D) : G_law_counts [a0, a1] = (g_law_counts [some a0, some a1, none, none, none, none, none, none, none]).bind gOutN := rfl
noncomputable abbrev g_law : DS -> Option Res := (gSeq (gSet 1 (g2 dMod (g2 dDiv (gCall G_law_cell 2 (gConsA (gVar 0) (gConsA (gC (.int (1))) gNilA))) (gC (.int (100)))) (gC (.int (5)))))
  (gSeq (gSetN 2 (gCallN G_law_counts 2 (gConsA (gVar 0) (gConsA (gVar 1) gNilA))))
  (gSeq (gSet 3 (g2 dMod (gCall G_law_cell 2 (gConsA (gVar 0) (gConsA (gC (.int (2))) gNilA))) (gB1 dLen (gConsA (gVar 2) gNilA))))
  (gSeq (gSetN 2 (g2N dCat (gLst (g2N dCat (gLst (gSlL (gVar 2) (gPart (gVar 3)) gNoPart)) (gLst (gSlL (gVar 2) gNoPart (gPart (gVar 3)))))) (gLst (gSlL (gVar 2) gNoPart (gPart (g2 dMod (gVar 3) (gC (.int (3)))))))))
  (gSeq (gIf (gB (g2 dEq (g2 dMod (g2 dDiv (gCall G_law_cell 2 (gConsA (gVar 0) (gConsA (gC (.int (1))) gNilA))) (gC (.int (500)))) (gC (.int (6)))) (gC (.int (1))))) (gSetN 2 (gCompL (gItems (gVar 2)) 1 [] (gName' 0) (gB (g2 dNe (gVar 0) (gTupD (gConsA (gC (.int (0))) (gConsA (gC (.int (0))) gNilA))))) (gVar 0))) gSkip)
  (gSeq (gSet 4 (gLst (gB1N dListN (gConsA (gVar 2) gNilA))))
  (gSeq (gIf (gOr (gNot (gTru (gCall G_law_like 2 (gConsA (gCall G_law_made 1 (gConsA (gVar 4) gNilA)) (gConsA (gCallSh G_law_due 1 (gConsA (gVar 2) gNilA)) gNilA))))) (gB (g2 dNe (gVar 4) (gVar 2)))) (gRet (gC (.bool false))) gSkip)
  (gSeq (gReverse 2)
  (gRet (gCall G_law_like 2 (gConsA (gCallSh G_law_made 1 (gConsA (gVar 2) gNilA)) (gConsA (gCallSh G_law_due 1 (gConsA (gVar 2) gNilA)) gNilA))))))))))))
noncomputable def G_law : List D -> Option D := gDef 5 g_law
theorem E_law (a0 : D) : G_law [a0] = (g_law [some a0, none, none, none, none]).bind gOut := rfl
end MyLaw
open L2
namespace MyLaw
open PySem L2 Q1
theorem v_law_cell (ns : List Int) (k : Nat) : G_law_cell [.list (ns.map .int), .int k] = some (.int (ns.getD k 0)) := by
 rw [E_law_cell]
 simp only [gSeq, gIf, gB, g2, gVar, List.getElem?_cons_succ, List.getElem?_cons_zero, Option.join_some, gB1, gConsA, gNilA, Option.bind_some, dLen_l, dI_ok, gRet, dIx_l, gSkip, decide_eq_true_eq, gC]
 rw [List.length_map, List.getD_eq_getElem?_getD]
 by_cases h : k < ns.length
 ·rw [if_pos (by lia), atI_nat (v := .int ns[k]) (by rw [List.getElem?_map, List.getElem?_eq_getElem h]; rfl), List.getElem?_eq_getElem h]
  rfl
 ·rw [if_neg (by lia), List.getElem?_eq_none (by lia)]
  rfl
theorem v_law_whole (i : Int) : G_law_whole [.int i] = some (.bool true) := by
 rw [E_law_whole]
 simp only [gRet, gAndV, gB, gIsi, gVar, List.getElem?_cons_zero, Option.join_some, Option.bind_some, isi_i_i, g1, isi_i_b, dNot, Bool.not_false, if_true, gOut]
end MyLaw
namespace MyLaw
open PySem L2 Q1
noncomputable def dR (r : List Int) : D := .tuple (r.map .int)
noncomputable def dPl (p : List (List Int)) : D := .tuple (p.map dR)
noncomputable def Rise (l : List Int) : Prop := l.Pairwise (· < ·)
noncomputable def led (r : List Int) : List Int := ss (r ++ r.map (· + 1))
noncomputable def Nx (r s : List Int) : Prop := s ≠ [] /\ Rise s /\ ∀ x ∈ s, x ∈ led r
noncomputable def Chn : List Int -> List (List Int) -> Prop
 | _, [] => True
 | r, s :: q => Nx r s /\ Chn s q
noncomputable def lst : List Int -> List (List Int) -> List Int
 | r, [] => r
 | _, s :: q => lst s q
theorem chn_snoc {s : List Int} : ∀ {q : List (List Int)} {r : List Int}, Chn r q -> Nx (lst r q) s -> Chn r (q ++ [s])
 | [], _, _, h => ⟨h, trivial⟩
 | _ :: _, _, h1, h2 => ⟨h1.1, chn_snoc h1.2 h2⟩
theorem lst_snoc {s : List Int} : ∀ {q : List (List Int)} {r : List Int}, lst r (q ++ [s]) = s
 | [], _ => rfl
 | _ :: q, _ => lst_snoc (q := q)
structure Pl (p : List (List Int)) : Prop where
 ex : ∃ q, p = [0] :: q /\ Chn [0] q
theorem mem_led {x : Int} {r : List Int} : x ∈ led r ↔ x ∈ r \/ x - 1 ∈ r := by
 unfold led
 rw [mem_ss, List.mem_append, List.mem_map]
 constructor
 ·rintro (h | ⟨y, h, e⟩)
  ·exact .inl h
  ·exact .inr (by have : x - 1 = y := by lia
                  rw [this]; exact h)
 ·rintro (h | h)
  ·exact .inl h
  ·exact .inr ⟨x - 1, h, by lia⟩
theorem rise_len : ∀ {l : List Int} {a b : Int}, Rise l -> (∀ x ∈ l, a <= x /\ x <= b) -> (l.length : Int) <= max 0 (b - a + 1)
 | [], a, b, _, _ => by simp; lia
 | x :: l, a, b, h, hb => by
   obtain ⟨h1, h2⟩ := List.pairwise_cons.mp h
   have hx := hb x List.mem_cons_self
   have := rise_len (l := l) (a := x + 1) (b := b) h2 fun y hy => ⟨by have := h1 y hy; lia, (hb y (List.mem_cons_of_mem _ hy)).2⟩
   rw [List.length_cons]
   push_cast
   lia
theorem app_of {i : Nat} {g : DS -> Option D} {δ : DS} {ds : List D} {d : D} (h1 : gVar i δ = some (.list ds)) (h2 : g δ = some d) (h3 : ds.length < 100000) : gApp i g δ = some (.nx (δ.set i (some (.list (ds ++ [d]))))) := by
 unfold gApp
 rw [h1, h2]
 show (if ds.length < 100000 then _ else _) = _
 rw [if_pos h3]
theorem SS_of {g : DS -> Option D} {δ : DS} {d : D} {ns : List Int} (h : g δ = some d) (h2 : dRow d = some (ns.map .int)) (h3 : ns.length < 64) : gSS g δ = some ((ss ns).map .int) := by
 unfold gSS
 rw [h, Option.bind_some, h2, Option.bind_some, intsD_map, Option.bind_some, if_pos h3]
theorem cat_of {a b : DS -> Option D} {δ : DS} {x y : List D} (h1 : a δ = some (.list x)) (h2 : b δ = some (.list y)) (h3 : x.length + y.length <= 100000) : g2N dCat a b δ = some (x ++ y) := by
 unfold g2N
 rw [h1, h2]
 show (if x.length + y.length <= 100000 then _ else _) = _
 rw [if_pos h3]
theorem st_if {c : DS -> Option Bool} {a b : DS -> Option Res} {δ : DS} {r : Option Res} (x : Bool) (h : c δ = some x) (h1 : x = true -> a δ = r) (h2 : x = false -> b δ = r) : gIf c a b δ = r := by
 unfold gIf
 rw [h]
 cases x with
 | true => exact h1 rfl
 | false => exact h2 rfl
theorem cutD_sub {α : Type} (enc : α -> D) (l : List α) (lo hi : Option Int) : ∃ m : List α, cutD (l.map enc) lo hi = m.map enc /\ m.Sublist l := by
 refine ⟨(l.drop (HT.sIx l.length 0 lo)).take (HT.sIx l.length l.length hi - HT.sIx l.length 0 lo), ?_, (List.take_sublist _ _).trans (List.drop_sublist _ _)⟩
 unfold cutD
 rw [List.length_map, List.map_take, List.map_drop]
theorem b1_of {f : List D -> Option D} {g : DS -> Option (List D)} {δ : DS} {ds : List D} {r : Option D} (h : g δ = some ds) (h2 : f ds = r) : gB1 f g δ = r := by unfold gB1; rw [h]; exact h2
theorem part_of {g : DS -> Option D} {δ : DS} {i : Int} (h : g δ = some (.int i)) : gPart g δ = some (some i) := by unfold gPart; rw [h]; rfl
theorem led_of {a b : DS -> Option D} {δ : DS} {r : List Int} (h1 : a δ = some (.list (r.map .int))) (h2 : b δ = some (.list (r.map .int)) \/ b δ = some (dR r)) (hl : r.length < 32) : gSS (gLst (g2N dCat a (gLst (gComp (gItems b) [] (g2 dAddV (gVar 0) (gC (.int 1))))))) δ = some ((led r).map .int) := by
 have hi : gItems b δ = some (r.map .int) := by
  unfold gItems
  rcases h2 with h2 | h2
  ·rw [h2]; rfl
  ·rw [h2]; rfl
 have hc : gComp (gItems b) [] (g2 dAddV (gVar 0) (gC (.int 1))) δ = some ((r.map (· + 1)).map .int) := comp_of PyData.int PyData.int (fun x => x + 1) r hi (by lia) (fun x _ => rfl)
 have hcat := cat_of h1 (lst_of hc) (by simp; lia)
 refine SS_of (lst_of hcat) ?_ (by simp; lia)
 rw [List.map_append]
 rfl
theorem v_law_mixes (c b : Int) (n : Nat) (hb : 0 < b) (hn : n <= 1000) : Gets (G_law_mixes [.int c, .int b, .int (n : Nat)]) fun ds => ∃ l : List Int, ds = l.map .int /\ l.length = n /\ ∀ x ∈ l, 0 <= x /\ x < b := by
 rw [E_law_mixes]
 refine seq_st [some (.int c), some (.int b), some (.int (n : Nat)), some (.list []), none, none] rfl ?_
 refine seq_forR 0 n (fun i δ => ∃ (l : List Int) (x y : Option D), δ = [some (.int c), some (.int b), some (.int (n : Nat)), some (.list (l.map .int)), x, y] /\ l.length = i /\ ∀ x ∈ l, 0 <= x /\ x < b) (range1_of rfl (by lia)) ⟨[], none, none, rfl, rfl, by simp⟩ ?_ ?_
 ·rintro i δ hi ⟨l, x, y, rfl, hl, hx⟩
  have m1 : dMulI (.int (c % 1000003)) (.int 48271) = some (.int (c % 1000003 * 48271)) := d_mul (mul_right (by decide) (by decide))
  have m2 : dMulI (.int (0 + (i : Int))) (.int (0 + (i : Int))) = some (.int ((0 + (i : Int)) * (0 + (i : Int)))) := d_mul (mul_right (by lia) (by lia))
  have m3 : dMulI (.int ((0 + (i : Int)) * (0 + (i : Int)))) (.int 69621) = some (.int ((0 + (i : Int)) * (0 + (i : Int)) * 69621)) := d_mul (mul_right (by decide) (by decide))
  have m4 : dMulI (.int (0 + (i : Int))) (.int 16807) = some (.int ((0 + (i : Int)) * 16807)) := d_mul (mul_right (by decide) (by decide))
  refine ⟨_, [some (.int c), some (.int b), some (.int (n : Nat)), some (.list ((l ++ [_]).map .int)), some (.int (0 + (i : Int))), some (.int ((c % 1000003 * 48271 + (0 + (i : Int)) * (0 + (i : Int)) * 69621 + (0 + (i : Int)) * 16807) % 2147483647))], rfl,
   st_seq [some (.int c), some (.int b), some (.int (n : Nat)), some (.list (l.map .int)), some (.int (0 + (i : Int))), some (.int ((c % 1000003 * 48271 + (0 + (i : Int)) * (0 + (i : Int)) * 69621 + (0 + (i : Int)) * 16807) % 2147483647))]
    (set_of (g2_of (g2_of (g2_of (g2_of (g2_of rfl rfl (d_mod (by decide))) rfl m1) (g2_of (g2_of rfl rfl m2) rfl m3) rfl) (g2_of rfl rfl m4) rfl) rfl (d_mod (by decide))))
    ((app_of (d := .int (((c % 1000003 * 48271 + (0 + (i : Int)) * (0 + (i : Int)) * 69621 + (0 + (i : Int)) * 16807) % 2147483647 * 39373 + c) % 2147483629 / 13 % b)) rfl
      (g2_of (g2_of (g2_of (g2_of (g2_of rfl rfl (d_mul (mul_right (by decide) (by decide)))) rfl rfl) rfl (d_mod (by decide))) rfl (d_div (by decide) (bt_up (bt_of (m := 4) (by decide)) (by decide)))) rfl (d_mod hb)) (by simp; lia)).trans (by rw [List.map_append]; rfl)), l ++ [_], _, _, rfl, by simp [hl], ?_⟩
  intro z hz
  rcases List.mem_append.mp hz with q | q
  ·exact hx z q
  ·rw [List.mem_singleton.mp q]
   exact ⟨Int.emod_nonneg _ (by lia), Int.emod_lt_of_pos _ hb⟩
 ·rintro δ' ⟨l, x, y, rfl, hl, hx⟩
  exact ret (.list (l.map .int)) rfl (.mk rfl ⟨l, rfl, hl, hx⟩)
theorem v_law_digits (c b : Int) (n : Nat) (hb : 0 < b) (hb2 : bt b <= 9000) (hn : n <= 1000) : Gets (G_law_digits [.int c, .int b, .int (n : Nat)]) fun ds => ∃ l : List Int, ds = l.map .int /\ l.length = n /\ ∀ x ∈ l, 0 <= x /\ x < b := by
 rw [E_law_digits]
 refine seq_st [some (.int c), some (.int b), some (.int (n : Nat)), some (.list []), none] rfl ?_
 refine seq_forR 0 n (fun i δ => ∃ (c : Int) (l : List Int) (x : Option D), δ = [some (.int c), some (.int b), some (.int (n : Nat)), some (.list (l.map .int)), x] /\ l.length = i /\ ∀ x ∈ l, 0 <= x /\ x < b) (range1_of rfl (by lia)) ⟨c, [], none, rfl, rfl, by simp⟩ ?_ ?_
 ·rintro i δ hi ⟨c, l, x, rfl, hl, hx⟩
  refine ⟨_, [some (.int (c / b)), some (.int b), some (.int (n : Nat)), some (.list ((l ++ [c % b]).map .int)), some (.int (0 + (i : Int)))], rfl,
   st_seq [some (.int c), some (.int b), some (.int (n : Nat)), some (.list ((l ++ [c % b]).map .int)), some (.int (0 + (i : Int)))] ((app_of (d := .int (c % b)) rfl (g2_of rfl rfl (d_mod hb)) (by simp; lia)).trans (by rw [List.map_append]; rfl)) (set_of (g2_of rfl rfl (d_div hb hb2))), c / b, l ++ [c % b], _, rfl, by simp [hl], ?_⟩
  intro z hz
  rcases List.mem_append.mp hz with q | q
  ·exact hx z q
  ·rw [List.mem_singleton.mp q]
   exact ⟨Int.emod_nonneg _ (by lia), Int.emod_lt_of_pos _ hb⟩
 ·rintro δ' ⟨c, l, x, rfl, hl, hx⟩
  exact ret (.list (l.map .int)) rfl (.mk rfl ⟨l, rfl, hl, hx⟩)
theorem flt_sub {f : D -> Option (Option D)} (hf : ∀ (k : Nat) (x : Int), ∃ b : Bool, f (.tuple [.int (k : Nat), .int x]) = some (if b = true then some (.int x) else none)) : ∀ (l : List Int) (n : Nat), ∃ m : List Int, fltD f (((l.map PyData.int).zipIdx n).map fun p => .tuple [.int (p.2 : Nat), p.1]) = some (m.map .int) /\ m.Sublist l
 | [], n => ⟨[], rfl, .slnil⟩
 | x :: l, n => by
   obtain ⟨m, e, hs⟩ := flt_sub hf l (n + 1)
   obtain ⟨b, hb⟩ := hf n x
   rw [List.map_cons, List.zipIdx_cons, List.map_cons, fltD, hb, Option.bind_some, e, Option.bind_some]
   cases b with
   | true => exact ⟨x :: m, rfl, hs.cons₂ x⟩
   | false => exact ⟨m, rfl, hs.cons x⟩
theorem dix_ok {l : List Int} {i : Int} (h0 : 0 <= i) (h1 : i < l.length) : ∃ x, x ∈ l /\ dIx (.list (l.map .int)) (.int i) = some (.int x) := by
 obtain ⟨k, rfl⟩ : ∃ k : Nat, i = (k : Int) := ⟨i.toNat, by lia⟩
 have hk : k < l.length := by lia
 exact ⟨l[k], List.getElem_mem hk, atI_nat (by rw [List.getElem?_map, List.getElem?_eq_getElem hk]; rfl)⟩
theorem led0 : led [0] = [0, 1] := ss_eq (by simp) (by intro z; simp)
theorem v_law_plan (c : Int) (m : Nat) (hm1 : 1 <= m) (hm : m <= 24) : Gets (G_law_plan [.int c, .int (m : Nat)]) fun d => ∃ p, d = dPl p /\ Pl p /\ p.length <= m /\ ∀ r ∈ p, r.length <= 25 := by
 rw [E_law_plan]
 have p18 : dPow (.int 10) (.int 18) = some (.int (10 ^ 18)) := d_pow (k := 18) (by decide) (by decide)
 obtain ⟨many, hmany, hmany2, emany⟩ : ∃ many : Nat, 100 <= many /\ many <= 300 /\ g2 dAddV (gC (.int (100))) (g2 dMulI (gC (.int (200))) (gB1 dInt (gConsA (g2 dGt (gVar 1) (gC (.int (12)))) gNilA))) [some (.int c), some (.int (m : Nat)), some (.int (c / 4)), none, none, none, none, none, none] = some (.int (many : Nat)) := by
  by_cases h : (12 : Int) < (m : Int)
  ·refine ⟨300, by decide, by decide, g2_of rfl (g2_of rfl (show _ = some (.int 1) from ?_) (d_mul (mul_right (by decide) (by decide)))) rfl⟩
   show some (PyData.int (if decide ((12 : Int) < (m : Int)) = true then 1 else 0)) = _
   rw [decide_eq_true h]; rfl
  ·refine ⟨100, by decide, by decide, g2_of rfl (g2_of rfl (show _ = some (.int 0) from ?_) (d_mul (mul_right (by decide) (by decide)))) rfl⟩
   show some (PyData.int (if decide ((12 : Int) < (m : Int)) = true then 1 else 0)) = _
   rw [decide_eq_false h]; rfl
 have hm0 : (0 : Int) < (many : Int) := Int.ofNat_lt.mpr (Nat.lt_of_lt_of_le (by decide) hmany)
 have hm1000 : many <= 1000 := Nat.le_trans hmany2 (by decide)
 refine seq_st [some (.int c), some (.int (m : Nat)), some (.int (c / 4)), none, none, none, none, none, none] (set_of (g2_of rfl rfl (d_div (by decide) (bt_up (bt_of (m := 4) (by decide)) (by decide))))) ?_
 refine seq_st [some (.int c), some (.int (m : Nat)), some (.int (c / 4)), some (.int (many : Nat)), none, none, none, none, none] (set_of emany) ?_
 obtain ⟨_, e1, l1, rfl, hl1, hx1⟩ := v_law_mixes (c / 4) 3 many (by decide) hm1000
 refine seq_st [some (.int c), some (.int (m : Nat)), some (.int (c / 4)), some (.int (many : Nat)), some (.list (l1.map .int)), none, none, none, none] (set_of (lst_of (callN_of (cons_of rfl (cons_of rfl (cons_of rfl rfl))) rfl e1))) ?_
 have dig : ∃ dg : List Int, dg.length = many /\ gIf (gB (g2 dGe (gB1 dAbs (gConsA (gVar 0) gNilA)) (g2 dPow (gC (.int (10))) (gC (.int (18)))))) (gSet 4 (gLst (gCallN G_law_digits 3 (gConsA (gVar 2) (gConsA (gC (.int (3))) (gConsA (gVar 3) gNilA)))))) gSkip [some (.int c), some (.int (m : Nat)), some (.int (c / 4)), some (.int (many : Nat)), some (.list (l1.map .int)), none, none, none, none]
   = some (.nx [some (.int c), some (.int (m : Nat)), some (.int (c / 4)), some (.int (many : Nat)), some (.list (dg.map .int)), none, none, none, none]) := by
  obtain ⟨_, e2, l2, rfl, hl2, hx2⟩ := v_law_digits (c / 4) 3 many (by decide) (bt_up (bt_of (m := 4) (by decide)) (by decide)) hm1000
  have hc : gB (g2 dGe (gB1 dAbs (gConsA (gVar 0) gNilA)) (g2 dPow (gC (.int (10))) (gC (.int (18))))) [some (.int c), some (.int (m : Nat)), some (.int (c / 4)), some (.int (many : Nat)), some (.list (l1.map .int)), none, none, none, none] = some (decide ((10 ^ 18 : Int) <= (if c < 0 then -c else c))) := gB_of (g2_of rfl p18 rfl)
  by_cases h : ((10 ^ 18 : Int) <= (if c < 0 then -c else c))
  ·exact ⟨l2, hl2, st_if true (by rw [hc, decide_eq_true h]) (fun _ => set_of (lst_of (callN_of (cons_of rfl (cons_of rfl (cons_of rfl rfl))) rfl e2))) (fun z => nomatch z)⟩
  ·exact ⟨l1, hl1, st_if false (by rw [hc, decide_eq_false h]) (fun z => nomatch z) (fun _ => rfl)⟩
 obtain ⟨dg, hdg, edg⟩ := dig
 refine seq_st _ edg ?_
 refine seq_st [some (.int c), some (.int (m : Nat)), some (.int (c / 4)), some (.int (many : Nat)), some (.list (dg.map .int)), some (.list [dR [0]]), none, none, none] rfl ?_
 refine seq_st [some (.int c), some (.int (m : Nat)), some (.int (c / 4)), some (.int (many : Nat)), some (.list (dg.map .int)), some (.list [dR [0]]), some (.list (([0, 1] : List Int).map .int)), none, none] rfl ?_
 refine seq_st [some (.int c), some (.int (m : Nat)), some (.int (c / 4)), some (.int (many : Nat)), some (.list (dg.map .int)), some (.list [dR [0]]), some (.list (([0, 1] : List Int).map .int)), some (.int 0), none] rfl ?_
 refine seq_while (fun k δ => ∃ (q : List (List Int)) (come : List Int) (pos : Nat) (z : Option D), δ = [some (.int c), some (.int (m : Nat)), some (.int (c / 4)), some (.int (many : Nat)), some (.list (dg.map .int)), some (.list (([0] :: q).map dR)), some (.list (come.map .int)), some (.int (pos : Nat)), z] /\
   Chn [0] q /\ q.length + 1 <= m /\ (come = [] \/ come = led (lst [0] q)) /\ Rise come /\ (∀ x ∈ come, 0 <= x /\ x <= (q.length : Int) + 1) /\ (∀ r ∈ q, r.length <= 25) /\ k = 2 * (m - q.length) + (if come = [] then 0 else 1))
  (fun δ => ∃ (q : List (List Int)) (x y z : Option D), δ = [some (.int c), some (.int (m : Nat)), some (.int (c / 4)), some (.int (many : Nat)), some (.list (dg.map .int)), some (.list (([0] :: q).map dR)), x, y, z] /\ Chn [0] q /\ q.length + 1 <= m /\ ∀ r ∈ q, r.length <= 25)
  (2 * m + 1) ⟨[], [0, 1], 0, none, rfl, trivial, by simpa using hm1, .inr led0.symm, by unfold Rise; simp, by intro x hx; simp at hx; rcases hx with h | h <;> subst h <;> decide, by simp, by simp⟩ ?_ ?_
 ·rintro k δ ⟨q, come, pos, z, rfl, hq, hqm, hcome, hr, hb, h25, rfl⟩
  have hlen : come.length <= q.length + 2 := by
   have := rise_len hr hb
   lia
  have cond : gAnd (gB (g2 dLt (gB1 dLen (gConsA (gVar 5) gNilA)) (gVar 1))) (gB (g2 dGt (gB1 dLen (gConsA (gVar 6) gNilA)) (gC (.int (0))))) [some (.int c), some (.int (m : Nat)), some (.int (c / 4)), some (.int (many : Nat)), some (.list (dg.map .int)), some (.list (([0] :: q).map dR)), some (.list (come.map .int)), some (.int (pos : Nat)), z]
    = some (decide ((((([0] :: q).map dR).length : Nat) : Int) < (m : Int)) && decide ((0 : Int) < (((come.map PyData.int).length : Nat) : Int))) := by
   by_cases h : ((((([0] :: q).map dR).length : Nat) : Int) < (m : Int))
   ·rw [decide_eq_true h, Bool.true_and]
    exact and_of (gB_of (b := true) (show _ = _ from congrArg (fun b => some (PyData.bool b)) (decide_eq_true h))) (gB_of rfl)
   ·rw [decide_eq_false h, Bool.false_and]
    have h1 : gB (g2 dLt (gB1 dLen (gConsA (gVar 5) gNilA)) (gVar 1)) [some (.int c), some (.int (m : Nat)), some (.int (c / 4)), some (.int (many : Nat)), some (.list (dg.map .int)), some (.list (([0] :: q).map dR)), some (.list (come.map .int)), some (.int (pos : Nat)), z] = some false :=
     gB_of (b := false) (show _ = _ from congrArg (fun b => some (PyData.bool b)) (decide_eq_false h))
    unfold gAnd
    rw [h1]; rfl
  rw [cond]
  cases hcd : (decide ((((([0] :: q).map dR).length : Nat) : Int) < (m : Int)) && decide ((0 : Int) < (((come.map PyData.int).length : Nat) : Int))) with
  | false => exact .inl ⟨rfl, q, _, _, _, rfl, hq, hqm, h25⟩
  | true =>
    rw [Bool.and_eq_true, decide_eq_true_eq, decide_eq_true_eq] at hcd
    have hqm2 : q.length + 1 < m := by
     have := hcd.1
     simp at this
     lia
    have hne : come ≠ [] := by
     intro e
     subst e
     simp at hcd
    have hcl : come = led (lst [0] q) := hcome.resolve_left hne
    refine .inr ⟨rfl, ?_⟩
    have comp : ∃ r1 : List Int, gCompL (gEnumerate (gVar 6)) 2 [4, 3, 7] (gTupT 2 (gConsT (gName' 0) (gConsT (gName' 1) gNilT))) (gB (g2 dGt (g2 dIx (gVar 2) (g2 dMod (g2 dAddV (gVar 4) (gVar 0)) (gVar 3))) (gC (.int (0))))) (gVar 1)
      [some (.int c), some (.int (m : Nat)), some (.int (c / 4)), some (.int (many : Nat)), some (.list (dg.map .int)), some (.list (([0] :: q).map dR)), some (.list (come.map .int)), some (.int (pos : Nat)), z] = some (r1.map .int) /\ r1.Sublist come := by
     obtain ⟨f, ef⟩ : ∃ f : D -> Option (Option D), f = fun d => (gTupT 2 (gConsT (gName' 0) (gConsT (gName' 1) gNilT)) d (List.replicate 2 none ++ captD [4, 3, 7] [some (.int c), some (.int (m : Nat)), some (.int (c / 4)), some (.int (many : Nat)), some (.list (dg.map .int)), some (.list (([0] :: q).map dR)), some (.list (come.map .int)), some (.int (pos : Nat)), z])).bind fun δ1 =>
       (gB (g2 dGt (g2 dIx (gVar 2) (g2 dMod (g2 dAddV (gVar 4) (gVar 0)) (gVar 3))) (gC (.int (0)))) δ1).bind fun b => if b = true then (gVar 1 δ1).map some else some none := ⟨_, rfl⟩
     have hf : ∀ (k : Nat) (x : Int), ∃ b : Bool, f (.tuple [.int (k : Nat), .int x]) = some (if b = true then some (.int x) else none) := by
      intro k x
      obtain ⟨y, _, ey⟩ := dix_ok (l := dg) (i := ((pos : Nat) + (k : Nat) : Int) % (many : Nat)) (Int.emod_nonneg _ (Int.ne_of_gt hm0)) (by rw [hdg]; exact Int.emod_lt_of_pos _ hm0)
      refine ⟨decide (0 < y), ?_⟩
      rw [ef]
      show (Option.bind (some [some (PyData.int (k : Nat)), some (.int x), some (.list (dg.map .int)), some (.int (many : Nat)), some (.int (pos : Nat))]) _) = _
      rw [Option.bind_some]
      have hb : gB (g2 dGt (g2 dIx (gVar 2) (g2 dMod (g2 dAddV (gVar 4) (gVar 0)) (gVar 3))) (gC (.int (0)))) [some (PyData.int (k : Nat)), some (.int x), some (.list (dg.map .int)), some (.int (many : Nat)), some (.int (pos : Nat))] = some (decide (0 < y)) :=
       gB_of (g2_of (g2_of rfl (g2_of (g2_of rfl rfl rfl) rfl (d_mod hm0)) ey) rfl rfl)
      rw [hb, Option.bind_some]
      cases decide (0 < y) <;> rfl
     obtain ⟨m1, em1, hs1⟩ := flt_sub hf come 0
     refine ⟨m1, ?_, hs1⟩
     unfold gCompL
     rw [show gEnumerate (gVar 6) [some (.int c), some (.int (m : Nat)), some (.int (c / 4)), some (.int (many : Nat)), some (.list (dg.map .int)), some (.list (([0] :: q).map dR)), some (.list (come.map .int)), some (.int (pos : Nat)), z] = some (enumD (come.map .int)) from rfl, Option.bind_some, if_pos (by rw [enumD_len, List.length_map]; lia)]
     rw [ef] at em1
     exact em1
    obtain ⟨r1, er1, hs1⟩ := comp
    have slice : ∃ r : List Int, r.Sublist come /\ gIf (gB (g2 dGt (g2 dMod (gVar 0) (gC (.int (4)))) (gC (.int (1))))) (gSet 8 (gLst (gSlL (gVar 6) (gPart (g2 dIx (gVar 4) (g2 dMod (gVar 7) (gVar 3)))) (gPart (gB1 dMax2 (gConsA (gC (.int (0))) (gConsA (g2 dSub (gB1 dLen (gConsA (gVar 6) gNilA)) (g2 dIx (gVar 4) (g2 dMod (g2 dAddV (gVar 7) (gC (.int (1)))) (gVar 3)))) gNilA))))))) gSkip
      [some (.int c), some (.int (m : Nat)), some (.int (c / 4)), some (.int (many : Nat)), some (.list (dg.map .int)), some (.list (([0] :: q).map dR)), some (.list (come.map .int)), some (.int ((pos : Nat) + (come.map PyData.int).length)), some (.list (r1.map .int))]
      = some (.nx [some (.int c), some (.int (m : Nat)), some (.int (c / 4)), some (.int (many : Nat)), some (.list (dg.map .int)), some (.list (([0] :: q).map dR)), some (.list (come.map .int)), some (.int ((pos : Nat) + (come.map PyData.int).length)), some (.list (r.map .int))]) := by
     obtain ⟨y1, _, ey1⟩ := dix_ok (l := dg) (i := ((pos : Nat) + (come.map PyData.int).length : Int) % (many : Nat)) (Int.emod_nonneg _ (Int.ne_of_gt hm0)) (by rw [hdg]; exact Int.emod_lt_of_pos _ hm0)
     obtain ⟨y2, _, ey2⟩ := dix_ok (l := dg) (i := ((pos : Nat) + (come.map PyData.int).length + 1 : Int) % (many : Nat)) (Int.emod_nonneg _ (Int.ne_of_gt hm0)) (by rw [hdg]; exact Int.emod_lt_of_pos _ hm0)
     have hc : gB (g2 dGt (g2 dMod (gVar 0) (gC (.int (4)))) (gC (.int (1)))) [some (.int c), some (.int (m : Nat)), some (.int (c / 4)), some (.int (many : Nat)), some (.list (dg.map .int)), some (.list (([0] :: q).map dR)), some (.list (come.map .int)), some (.int ((pos : Nat) + (come.map PyData.int).length)), some (.list (r1.map .int))] = some (decide (1 < c % 4)) :=
      gB_of (g2_of (g2_of rfl rfl (d_mod (by decide))) rfl rfl)
     by_cases h : 1 < c % 4
     ·obtain ⟨r2, er2, hs2⟩ := cutD_sub PyData.int come (some y1) (some (if ((come.map PyData.int).length : Int) - y2 > 0 then ((come.map PyData.int).length : Int) - y2 else 0))
      refine ⟨r2, hs2, st_if true (by rw [hc, decide_eq_true h]) (fun _ => set_of (lst_of ?_)) (fun z => nomatch z)⟩
      have f1 : gPart (g2 dIx (gVar 4) (g2 dMod (gVar 7) (gVar 3))) [some (.int c), some (.int (m : Nat)), some (.int (c / 4)), some (.int (many : Nat)), some (.list (dg.map .int)), some (.list (([0] :: q).map dR)), some (.list (come.map .int)), some (.int ((pos : Nat) + (come.map PyData.int).length)), some (.list (r1.map .int))] = some (some y1) := by
       exact part_of (g2_of rfl (g2_of rfl rfl (d_mod hm0)) ey1)
      have f2 : gPart (gB1 dMax2 (gConsA (gC (.int (0))) (gConsA (g2 dSub (gB1 dLen (gConsA (gVar 6) gNilA)) (g2 dIx (gVar 4) (g2 dMod (g2 dAddV (gVar 7) (gC (.int (1)))) (gVar 3)))) gNilA))) [some (.int c), some (.int (m : Nat)), some (.int (c / 4)), some (.int (many : Nat)), some (.list (dg.map .int)), some (.list (([0] :: q).map dR)), some (.list (come.map .int)), some (.int ((pos : Nat) + (come.map PyData.int).length)), some (.list (r1.map .int))]
        = some (some (if ((come.map PyData.int).length : Int) - y2 > 0 then ((come.map PyData.int).length : Int) - y2 else 0)) := by
       have g : g2 dSub (gB1 dLen (gConsA (gVar 6) gNilA)) (g2 dIx (gVar 4) (g2 dMod (g2 dAddV (gVar 7) (gC (.int (1)))) (gVar 3))) [some (.int c), some (.int (m : Nat)), some (.int (c / 4)), some (.int (many : Nat)), some (.list (dg.map .int)), some (.list (([0] :: q).map dR)), some (.list (come.map .int)), some (.int ((pos : Nat) + (come.map PyData.int).length)), some (.list (r1.map .int))] = some (.int (((come.map PyData.int).length : Int) - y2)) :=
        g2_of rfl (g2_of rfl (g2_of (g2_of rfl rfl rfl) rfl (d_mod hm0)) ey2) rfl
       exact part_of (b1_of (cons_of rfl (cons_of g rfl)) rfl)
      unfold gSlL
      rw [f1, f2]
      show some (cutD (come.map .int) _ _) = _
      rw [er2]
     ·exact ⟨r1, hs1, st_if false (by rw [hc, decide_eq_false h]) (fun z => nomatch z) (fun _ => rfl)⟩
    obtain ⟨r, hs, esl⟩ := slice
    have hrr : Rise r := hr.sublist hs
    have hrl : r.length <= 25 := by have := hs.length_le; lia
    have hrb : ∀ x ∈ r, 0 <= x /\ x <= (q.length : Int) + 1 := fun x hx => hb x (hs.subset hx)
    have e6 := led_of (a := gVar 8) (b := gVar 8) (δ := [some (.int c), some (.int (m : Nat)), some (.int (c / 4)), some (.int (many : Nat)), some (.list (dg.map .int)), some (.list (([0] :: q).map dR)), some (.list (come.map .int)), some (.int ((pos : Nat) + (come.map PyData.int).length)), some (.list (r.map .int))]) (r := r) rfl (.inl rfl) (by lia)
    by_cases hre : r = []
    ·subst hre
     refine ⟨[some (.int c), some (.int (m : Nat)), some (.int (c / 4)), some (.int (many : Nat)), some (.list (dg.map .int)), some (.list (([0] :: q).map dR)), some (.list (([] : List Int).map .int)), some (.int (((pos + come.length : Nat) : Nat) : Int)), some (.list (([] : List Int).map .int))], 2 * (m - q.length), ?_, by rw [if_neg hne]; lia, q, [], pos + come.length, _, rfl, hq, hqm, .inl rfl, .nil, by simp, h25, by simp⟩
     refine st_seq _ (set_of (lst_of er1)) (st_seq _ (set_of (g2_of rfl rfl rfl)) (st_seq _ esl (st_seq _ (set_of (lst_of e6)) ?_)))
     refine (st_if false rfl (fun z => nomatch z) fun _ => rfl).trans ?_
     rw [List.length_map]
     push_cast
     rfl
    ·have hnx : Nx (lst [0] q) r := ⟨hre, hrr, fun x hx => hcl ▸ hs.subset hx⟩
     refine ⟨[some (.int c), some (.int (m : Nat)), some (.int (c / 4)), some (.int (many : Nat)), some (.list (dg.map .int)), some (.list (([0] :: (q ++ [r])).map dR)), some (.list ((led r).map .int)), some (.int (((pos + come.length : Nat) : Nat) : Int)), some (.list (r.map .int))], 2 * (m - (q ++ [r]).length) + (if led r = [] then 0 else 1), ?_, ?_, q ++ [r], led r, pos + come.length, _, rfl, chn_snoc hq hnx, by simp; lia, .inr (by rw [lst_snoc]), ss_rising, ?_, ?_, rfl⟩
     ·refine st_seq _ (set_of (lst_of er1)) (st_seq _ (set_of (g2_of rfl rfl rfl)) (st_seq _ esl (st_seq _ (set_of (lst_of e6)) ?_)))
      have hpos : (0 : Int) < ((r.map PyData.int).length : Int) := by
       have := List.length_pos_iff.mpr hre
       simp; lia
      refine (st_if true (gB_of (b := true) (show _ = _ from congrArg (fun b => some (PyData.bool b)) (decide_eq_true hpos))) (fun _ => app_of (ds := ([0] :: q).map dR) (d := dR r) rfl rfl (by simp; lia)) fun z => nomatch z).trans ?_
      rw [List.length_map, <- List.cons_append, List.map_append]
      push_cast
      rfl
     ·have hl : led r ≠ [] := fun e => by
       obtain ⟨x, hx⟩ := List.exists_mem_of_ne_nil r hre
       have := mem_led.mpr (.inl hx)
       rw [e] at this; simp at this
      rw [if_neg hl, if_neg hne]
      simp
      lia
     ·intro x hx
      rcases mem_led.mp hx with h | h
      ·have := hrb x h; simp; lia
      ·have := hrb _ h; simp; lia
     ·intro s hs'
      rcases List.mem_append.mp hs' with h | h
      ·exact h25 s h
      ·rw [List.mem_singleton.mp h]; exact hrl
 ·rintro δ' ⟨q, x, y, z, rfl, hq, hqm, h25⟩
  refine ret (dPl ([0] :: q)) rfl (.mk rfl ⟨[0] :: q, rfl, ⟨q, rfl, hq⟩, by simpa using hqm, fun r hr => ?_⟩)
  rcases List.mem_cons.mp hr with h | h
  ·rw [h]; decide
  ·exact h25 r h
end MyLaw
namespace MyLaw
open PySem L2 Q1
theorem dd {a : Int} (b : Int) (h : 0 < b) (h2 : b.natAbs < 2 ^ 70) : dDiv (.int a) (.int b) = some (.int (a / b)) := d_div h (bt_up (bt_of h2) (by decide))
theorem v_law_most (c : Int) : ∃ m : Nat, 1 <= m /\ m <= 12 /\ G_law_most [.int c] = some (.int (m : Nat)) := by
 by_cases h : c / 7 % 8 = 1
 ·have h0 := Int.emod_nonneg (c / 56) (b := 12) (by decide)
  have h1 := Int.emod_lt_of_pos (c / 56) (show (0 : Int) < 12 by decide)
  refine ⟨(1 + c / 56 % 12).toNat, by lia, by lia, ?_⟩
  rw [E_law_most]
  refine of_gets (seq_iff true (gB_of (b := true) ?_) (fun _ => seq_ret (.int (1 + c / 56 % 12)) (g2_of rfl (g2_of (g2_of rfl rfl (dd 56 (by decide) (by decide))) rfl (d_mod (by decide))) rfl) (.mk rfl ?_)) fun z => nomatch z)
  ·refine (g2_of (g2_of (g2_of rfl rfl (dd 7 (by decide) (by decide))) rfl (d_mod (by decide))) rfl rfl).trans ?_
   rw [dEq_ii, decide_eq_true h]
  ·rw [show (((1 + c / 56 % 12).toNat : Nat) : Int) = 1 + c / 56 % 12 by lia]
 ·have h0 := Int.emod_nonneg c (b := 7) (by decide)
  have h1 := Int.emod_lt_of_pos c (show (0 : Int) < 7 by decide)
  refine ⟨(1 + c % 7).toNat, by lia, by lia, ?_⟩
  rw [E_law_most]
  refine of_gets (seq_no (gB_of (b := false) ?_) (ret (.int (1 + c % 7)) (g2_of rfl (g2_of rfl rfl (d_mod (by decide))) rfl) (.mk rfl ?_)))
  ·refine (g2_of (g2_of (g2_of rfl rfl (dd 7 (by decide) (by decide))) rfl (d_mod (by decide))) rfl rfl).trans ?_
   rw [dEq_ii, decide_eq_false h]
  ·rw [show (((1 + c % 7).toNat : Nat) : Int) = 1 + c % 7 by lia]
end MyLaw
namespace MyLaw
open PySem L2 Q1
theorem flt_of {α β : Type} (enc : α -> D) (enc' : β -> D) (h : α -> β) (P : α -> Bool) {f : D -> Option (Option D)} (l : List α) : (∀ a ∈ l, f (enc a) = some (if P a = true then some (enc' (h a)) else none)) -> fltD f (l.map enc) = some (((l.filter P).map h).map enc') := by
 induction l with
 | nil => exact fun _ => rfl
 | cons a l ih =>
   intro q
   rw [List.map_cons, fltD, q a List.mem_cons_self, Option.bind_some, ih fun b hb => q b (List.mem_cons_of_mem _ hb), Option.bind_some, List.filter_cons]
   cases P a <;> rfl
theorem compL_of {α β : Type} (enc : α -> D) (enc' : β -> D) (h : α -> β) (P : α -> Bool) {gi : DS -> Option (List D)} {ix : List Nat} {gc : DS -> Option Bool} {ge : DS -> Option D} {δ : DS} (l : List α) (hi : gi δ = some (l.map enc)) (hl : l.length <= 100000)
  (hc : ∀ a ∈ l, gc (some (enc a) :: captD ix δ) = some (P a)) (he : ∀ a ∈ l, P a = true -> ge (some (enc a) :: captD ix δ) = some (enc' (h a))) : gCompL gi 1 ix (gName' 0) gc ge δ = some (((l.filter P).map h).map enc') := by
 unfold gCompL
 rw [hi, Option.bind_some, if_pos (by rw [List.length_map]; exact hl)]
 refine flt_of enc enc' h P l fun a ha => ?_
 show (Option.bind (some (some (enc a) :: captD ix δ)) _) = _
 rw [Option.bind_some, hc a ha, Option.bind_some]
 cases q : P a with
 | true => rw [if_pos rfl, if_pos rfl, he a ha q]; rfl
 | false => rfl
theorem chain_b {f f' : D -> D -> Option D} {a b c : DS -> Option D} {δ : DS} {x y w : D} {u v : Bool} (h1 : a δ = some x) (h2 : b δ = some y) (h3 : f x y = some (.bool u)) (h4 : c δ = some w) (h5 : f' y w = some (.bool v)) : gChain f f' a b c δ = some (.bool (u && v)) := by
 unfold gChain
 rw [h1, h2]
 simp only [Option.bind_some, h3]
 cases u with
 | true => simp only [h4, Option.bind_some, h5, Bool.true_and]
 | false => rfl
theorem callV_of {f : Addr} {c : Ca} {q : Str} {G : List D -> Option D} {n i : Nat} {g : DS -> Option (List D)} {δ : DS} {ds : List D} {r : Option D} (h0 : δ[i]? = some (some (codeF f c q))) (h : g δ = some ds) (hn : ds.length = n) (hG : G ds = r) : gCallV f c q G n i g δ = r := by
 unfold gCallV
 rw [if_pos h0, h, Option.bind_some, if_pos hn]
 exact hG
theorem end_while {c : DS -> Option Bool} {b : DS -> Option Res} {β : Type} {f : Res -> Option β} {R : β -> Prop} {δ : DS} (W : Nat -> DS -> Prop) (d : D) (m : Nat) (h : W m δ)
  (hs : ∀ m δ, W m δ -> c δ = some true /\ ((∃ δ' m', b δ = some (.nx δ') /\ m' < m /\ W m' δ') \/ b δ = some (.rt d))) (k : Gets (f (.rt d)) R) : Gets ((gWhile c b δ).bind f) R := by
 obtain ⟨r, e, hr⟩ := gWhile_by W (fun _ r => r = .rt d) m δ h fun m δ w => by
  obtain ⟨h1, h2⟩ := hs m δ w
  rcases h2 with ⟨δ', m', a, b, c⟩ | h2
  ·exact .inr ⟨h1, .inl ⟨δ', m', .inl a, b, c, fun _ h => h⟩⟩
  ·exact .inr ⟨h1, .inr (.inr ⟨d, h2, rfl⟩)⟩
 subst hr
 rw [e]
 exact k
theorem v_led_toL {r : List Int} (h : r.length < 32) : G_led_to [.list (r.map .int)] = some ((led r).map .int) := by
 rw [E_led_to]
 exact of_gets (ret (.list ((led r).map .int)) (lst_of (led_of (a := gLst (gB1N dListN (gConsA (gVar 0) gNilA))) (b := gVar 0) (r := r) rfl (.inl rfl) h)) (.mk rfl rfl))
noncomputable def dC (c : Int × Int) : D := .tuple [.int c.1, .int c.2]
noncomputable abbrev kC (c : Int × Int) : List Key := [.inl c.1, .inl c.2]
theorem key_eq {b g x y : Int} : (([.inl b, .inl g] : List Key) = [.inl x, .inl y]) ↔ b = x /\ g = y := by simp
theorem kC_eq {a c : Int × Int} : kC a = kC c ↔ a = c := key_eq.trans ⟨fun h => Prod.ext h.1 h.2, fun h => ⟨congrArg Prod.fst h, congrArg Prod.snd h⟩⟩
noncomputable def Ky (kds : List (D × D)) (ks : List (Int × Int)) : Prop := kds.map (·.1) = ks.map dC
theorem Ky.fn {kds : List (D × D)} {ks : List (Int × Int)} (h : Ky kds ks) : fnD kds = false := by
 cases kds with
 | nil => rfl
 | cons p r =>
   cases ks with
   | nil => cases h
   | cons c ks =>
     obtain ⟨x, y⟩ := p
     have e : x = dC c := (List.cons.inj h).1
     subst e
     rfl
theorem Ky.look {kds : List (D × D)} {ks : List (Int × Int)} (h : Ky kds ks) (c : Int × Int) : (dLook kds (kC c)).isSome = decide (c ∈ ks) := by
 rw [<- dLook_any, show (kds.any fun p => decide (keyOf p.1 = some (kC c))) = (kds.map (·.1)).any fun x => decide (keyOf x = some (kC c)) by rw [List.any_map]; rfl, h, List.any_map, Bool.eq_iff_iff, List.any_eq_true, decide_eq_true_eq]
 constructor
 ·rintro ⟨x, hx, e⟩
  have e : decide (some (kC x) = some (kC c)) = true := e
  rw [decide_eq_true_eq] at e
  rw [<- kC_eq.mp (Option.some.inj e)]; exact hx
 ·intro hc
  exact ⟨c, hc, by show decide (some (kC c) = some (kC c)) = true; rw [decide_eq_true rfl]⟩
theorem Ky.put {kds : List (D × D)} {ks : List (Int × Int)} (h : Ky kds ks) (c : Int × Int) (d : D) : Ky (dPutD kds (kC c) d) (if c ∈ ks then ks else ks ++ [c]) := by
 unfold dPutD Ky
 rw [dLook_any, h.look c]
 by_cases z : c ∈ ks
 ·rw [if_pos (decide_eq_true z), if_pos z, List.map_map, <- h]
  refine List.map_congr_left fun p _ => ?_
  show (if keyOf p.1 = some (kC c) then (p.1, d) else p).1 = p.1
  split <;> rfl
 ·rw [if_neg (by rw [decide_eq_false z]; exact Bool.false_ne_true), if_neg z, List.map_append, List.map_append, h]
  rfl
set_option tactic.hygienic true in
theorem if_mem {ks : List (Int × Int)} {c x : Int × Int} : x ∈ (if c ∈ ks then ks else ks ++ [c]) ↔ x ∈ ks \/ x = c := by
 split
 ·rename_i h
  exact ⟨.inl, fun z => z.elim id fun q => by rw [q]; exact h⟩
 ·rw [List.mem_append, List.mem_singleton]
theorem take_sn {α : Type} {l : List α} {i : Nat} {x : α} (h : l[i]? = some x) : l.take (i + 1) = l.take i ++ [x] := by
 rw [List.take_add_one, h]; rfl
theorem dinF_of {gk gd : DS -> Option D} {δ : DS} {kds : List (D × D)} {ks : List (Int × Int)} {c : Int × Int} (h : Ky kds ks) (h1 : gk δ = some (dC c)) (h2 : gd δ = some (fzD kds)) : gDinF gk gd δ = some (.bool (decide (c ∈ ks))) := by
 unfold gDinF
 rw [h1, h2, <- h.look c]
 rfl
theorem din_of {b : Bool} {gk gd : DS -> Option D} {δ : DS} {kds : List (D × D)} {ks : List (Int × Int)} {c : Int × Int} (h : Ky kds ks) (h1 : gk δ = some (dC c)) (h2 : gd δ = some (.dict kds)) : gDin b gk gd δ = some (.bool (decide (c ∈ ks) == b)) := by
 unfold gDin
 rw [h1, h2, <- h.look c]
 show (if fnD kds = true then none else _) = _
 rw [h.fn]; rfl
theorem setK_of {i : Nat} {gk ge : DS -> Option D} {δ : DS} {kds : List (D × D)} {c : Int × Int} {d : D} (h1 : gVar i δ = some (.dict kds)) (h2 : gk δ = some (dC c)) (h3 : ge δ = some d) (h4 : kds.length < 100000) : gSetK i gk ge δ = some (.nx (δ.set i (some (.dict (dPutD kds [.inl c.1, .inl c.2] d))))) := by
 unfold gSetK; rw [h1, h2, h3]
 show (if kds.length < 100000 then _ else _) = _
 rw [if_pos h4]
noncomputable def pwR (P : Int -> Nat -> Bool) : Nat -> List Int -> Nat -> Option (List (List Int))
 | 0, _, _ => none
 | k + 1, th, n => if th.filter (fun b => P b n) = [] then some [] else (pwR P k (led (th.filter fun b => P b n)) (n + 1)).map (th.filter (fun b => P b n) :: ·)
theorem pwR_nil {P : Int -> Nat -> Bool} {th : List Int} {n k : Nat} (h : th.filter (fun b => P b n) = []) : pwR P (k + 1) th n = some [] := by rw [pwR, if_pos h]
theorem pwR_cons {P : Int -> Nat -> Bool} {th : List Int} {n k : Nat} (pl : List (List Int)) (h : th.filter (fun b => P b n) ≠ []) : (pwR P (k + 1) th n).map (pl ++ ·) = (pwR P k (led (th.filter fun b => P b n)) (n + 1)).map ((pl ++ [th.filter fun b => P b n]) ++ ·) := by
 rw [pwR, if_neg h]
 cases pwR P k (led (th.filter fun b => P b n)) (n + 1) with
 | none => rfl
 | some q =>
   show some (pl ++ (_ :: q)) = some ((pl ++ [_]) ++ q)
   rw [List.append_assoc]; rfl
noncomputable def Rw (th : List Int) (n : Nat) : Prop := Rise th /\ ∀ x ∈ th, 0 <= x /\ x <= (n : Int)
theorem Rw.flt {th : List Int} {n : Nat} (h : Rw th n) (p : Int -> Bool) : Rw (th.filter p) n := ⟨h.1.sublist List.filter_sublist, fun x hx => h.2 x (List.filter_sublist.subset hx)⟩
theorem Rw.led {th : List Int} {n : Nat} (h : Rw th n) : Rw (led th) (n + 1) := ⟨ss_rising, fun x hx => by
 rcases mem_led.mp hx with q | q
 ·have := h.2 x q; lia
 ·have := h.2 _ q; lia⟩
theorem Rw.len {th : List Int} {n : Nat} (h : Rw th n) : th.length <= n + 1 := by
 have := rise_len h.1 h.2
 lia
theorem rw0 : Rw [0] 0 := ⟨by unfold Rise; simp, by intro x hx; simp at hx; subst hx; decide⟩
noncomputable def ansW (x : D) : Option (List (List Int)) -> D
 | some p => dPl p
 | none => x
theorem v_plan_while {G : List D -> Option D} {P : Int -> Nat -> Bool} (hG : ∀ (b : Int) (n : Nat), G [.int b, .int (n : Nat)] = some (.bool (P b n))) (f : Addr) (c : Ca) (q : Str) :
  R_plan_while f c q G [codeF f c q] = some (ansW (rxD "TooLong") (pwR P 25 [0] 0)) := by
 rw [ER_plan_while]
 refine of_gets ?_
 obtain ⟨F, eF⟩ : ∃ F, F = some (codeF f c q) := ⟨_, rfl⟩
 rw [<- eF]
 refine seq_st [F, some (.list []), none, none, none] rfl ?_
 refine seq_st [F, some (.list []), some (.list (([0] : List Int).map .int)), none, none] rfl ?_
 refine end_while (fun m δ => ∃ (pl : List (List Int)) (th : List Int) (x y : Option D), δ = [F, some (.list (pl.map dR)), some (.list (th.map .int)), x, y] /\ pl.length + m = 25 /\ 1 <= m /\ Rw th pl.length /\ (pwR P m th pl.length).map (pl ++ ·) = pwR P 25 [0] 0)
  (ansW (rxD "TooLong") (pwR P 25 [0] 0)) 25 ⟨[], [0], none, none, rfl, rfl, by decide, rw0, by cases pwR P 25 [0] 0 <;> rfl⟩ ?_ (.mk rfl rfl)
 rintro m δ ⟨pl, th, x, y, rfl, hm, hm1, hw, hp⟩
 refine ⟨rfl, ?_⟩
 have hlen := hw.len
 obtain ⟨ro, er⟩ : ∃ ro, ro = th.filter fun b => P b pl.length := ⟨_, rfl⟩
 have e1 : gB1 dLen (gConsA (gVar 1) gNilA) [F, some (.list (pl.map dR)), some (.list (th.map .int)), x, y] = some (.int (pl.length : Nat)) := by
  show some (PyData.int (((pl.map dR).length : Nat) : Int)) = _
  rw [List.length_map]
 have e2 : gCompL (gItems (gVar 2)) 1 [0, 3] (gName' 0) (gTru (gCallV f c q G 2 1 (gConsA (gVar 0) (gConsA (gVar 2) gNilA)))) (gVar 0) [F, some (.list (pl.map dR)), some (.list (th.map .int)), some (.int (pl.length : Nat)), y] = some (ro.map .int) := by
  rw [er]
  refine (compL_of PyData.int PyData.int (fun x => x) (fun b => P b pl.length) th rfl (by lia) (fun b hb => ?_) fun b _ _ => rfl).trans (by rw [List.map_id'])
  exact gTru_of (callV_of (by rw [eF]; rfl) (cons_of rfl (cons_of rfl rfl)) rfl (hG b pl.length))
 have hf : ro.length <= th.length := by rw [er]; exact List.length_filter_le _ _
 have e3 : gB (g2 dEq (gB1 dLen (gConsA (gVar 4) gNilA)) (gC (.int 0))) [F, some (.list (pl.map dR)), some (.list (th.map .int)), some (.int (pl.length : Nat)), some (.list (ro.map .int))] = some (decide (ro = [])) := by
  refine gB_of ?_
  show some (PyData.bool (decide (((((ro).map PyData.int).length : Nat) : Int) = 0))) = _
  rw [List.length_map]
  congr 3
  rw [<- List.length_eq_zero_iff]
  simp
 obtain ⟨k, rfl⟩ : ∃ k, m = k + 1 := ⟨m - 1, by lia⟩
 by_cases hq : ro = []
 ·rw [er] at hq
  rw [pwR_nil hq] at hp
  rw [<- hp]
  refine .inr (st_seq _ (set_of e1) (st_seq _ (set_of (lst_of e2)) ?_))
  refine gSeq_rt (st_if true (e3.trans (by rw [er, decide_eq_true hq])) (fun _ => ?_) fun z => nomatch z)
  show some (Res.rt (.tuple (pl.map dR))) = some (Res.rt (dPl (pl ++ [])))
  rw [List.append_nil]; rfl
 ·have hq' := hq
  rw [er] at hq'
  rw [pwR_cons pl hq', <- er] at hp
  have e5 : gB (g2 dEq (gVar 3) (gC (.int 24))) [F, some (.list (pl.map dR)), some (.list (th.map .int)), some (.int (pl.length : Nat)), some (.list (ro.map .int))] = some (decide (pl.length = 24)) := by
   refine gB_of ?_
   show some (PyData.bool (decide ((pl.length : Int) = 24))) = _
   congr 3
   exact propext ⟨fun h => by lia, fun h => by lia⟩
  by_cases hn : pl.length = 24
  ·have : k = 0 := by lia
   subst this
   rw [<- hp]
   refine .inr (st_seq _ (set_of e1) (st_seq _ (set_of (lst_of e2)) (st_seq [F, some (.list (pl.map dR)), some (.list (th.map .int)), some (.int (pl.length : Nat)), some (.list (ro.map .int))] (st_no (e3.trans (by rw [decide_eq_false hq]))) ?_)))
   exact gSeq_rt (st_if true (e5.trans (by rw [decide_eq_true hn])) (fun _ => rfl) fun z => nomatch z)
  ·have e4 := v_led_toL (r := ro) (by lia)
   refine .inl ⟨[F, some (.list ((pl ++ [ro]).map dR)), some (.list ((led ro).map .int)), some (.int (pl.length : Nat)), some (.list (ro.map .int))], k, ?_, by lia, ⟨_, _, _, _, rfl, by rw [List.length_append, List.length_singleton]; lia, by lia, ?_, ?_⟩⟩
   ·refine st_seq _ (set_of e1) (st_seq _ (set_of (lst_of e2)) (st_seq [F, some (.list (pl.map dR)), some (.list (th.map .int)), some (.int (pl.length : Nat)), some (.list (ro.map .int))] (st_no (e3.trans (by rw [decide_eq_false hq]))) (st_seq [F, some (.list (pl.map dR)), some (.list (th.map .int)), some (.int (pl.length : Nat)), some (.list (ro.map .int))] (st_no (e5.trans (by rw [decide_eq_false hn]))) (st_seq _ (app_of (ds := pl.map dR) (d := dR ro) rfl rfl (by rw [List.length_map]; lia)) ?_))))
    refine (set_of (lst_of (callN_of (cons_of rfl rfl) rfl e4))).trans ?_
    rw [List.map_append]
    rfl
   ·rw [List.length_append, List.length_singleton, er]
    exact (hw.flt _).led
   ·rw [List.length_append, List.length_singleton]
    exact hp
noncomputable abbrev onT (cs : List (Int × Int)) (b : Int) (n : Nat) : Bool := decide ((b, (n : Int) - b) ∈ cs)
noncomputable def ansF (x y : D) (cs : List (Int × Int)) : D := if (0, 0) ∈ cs then ansW x (pwR (onT cs) 25 [0] 0) else y
theorem v_plan_from {cs : List (Int × Int)} (hl : cs.length < 100000) : R_plan_from [.list (cs.map dC)] = some (ansF (rxD "TooLong") (rxD "NoPlan") cs) := by
 rw [ER_plan_from]
 refine of_gets ?_
 refine seq_st [some (.list (cs.map dC)), some (.dict []), none] rfl ?_
 refine seq_for dC cs (fun i δ => ∃ kds ks a, δ = [some (.list (cs.map dC)), some (.dict kds), a] /\ Ky kds ks /\ (∀ c, c ∈ ks ↔ c ∈ cs.take i) /\ kds.length <= i) rfl ⟨[], [], none, rfl, rfl, fun c => by simp, Nat.le_refl _⟩ ?_ ?_
 ·rintro i c δ hi ⟨kds, ks, a, rfl, hk, hm, hlk⟩
  have hil := (List.getElem?_eq_some_iff.mp hi).1
  refine ⟨_, [some (.list (cs.map dC)), some (.dict (dPutD kds (kC c) (.bool true))), some (dC c)], rfl, setK_of (c := c) rfl rfl rfl (by lia), _, _, _, rfl, hk.put c (.bool true), fun x => ?_, ?_⟩
  ·rw [if_mem, hm, take_sn hi, List.mem_append, List.mem_singleton]
  ·have := dPutD_len kds (kC c) (.bool true)
   lia
 ·rintro δ' ⟨kds, ks, a, rfl, hk, hm, hlk⟩
  rw [List.take_length] at hm
  have e : onT cs = fun (b : Int) (n : Nat) => decide ((b, (n : Int) - b) ∈ ks) := by
   funext b n
   exact decide_eq_decide.mpr (hm _).symm
  unfold ansF
  rw [e]
  have hd := din_of (b := false) (gk := gTupD (gConsA (gC (.int (0))) (gConsA (gC (.int (0))) gNilA))) (gd := gVar 1) (δ := [some (.list (cs.map dC)), some (.dict kds), a]) (c := (0, 0)) hk rfl rfl
  by_cases h0 : ((0 : Int), (0 : Int)) ∈ cs
  ·rw [if_pos h0]
   refine seq_no (gB_of (b := false) (hd.trans ?_)) ?_
   ·rw [decide_eq_true ((hm (0, 0)).mpr h0)]; rfl
   ·refine ret (ansW (rxD "TooLong") (pwR (fun b n => decide ((b, (n : Int) - b) ∈ ks)) 25 [0] 0)) ?_ (.mk rfl rfl)
    show (allF fun f c a => R_plan_while f ⟨c, a, kds⟩ _ (gLamD _ kds) [codeF f ⟨c, a, kds⟩ _]) = _
    exact allF_of fun f c a => v_plan_while (fun b n => dinF_of (c := (b, (n : Int) - b)) hk rfl rfl) f ⟨c, a, kds⟩ _
  ·rw [if_neg h0]
   refine seq_iff true (gB_of (b := true) (hd.trans ?_)) (fun _ => .mk rfl rfl) fun z => nomatch z
   rw [decide_eq_false fun z => h0 ((hm (0, 0)).mp z)]; rfl
theorem try_raise {g : DS -> Option D} {rest : DS -> Option Res} {R : D -> Prop} {δ : DS} {c : Str} (h : g δ = some (rxD c)) (hc : c ∈ CSX) (k : R (.str c)) : Gets ((gSeq (gTry (gSetR 1 g) (handOf CSX (fun c => .str c))) rest δ).bind gOut) R := by
 rw [gSeq_rt (d := .str c)]
 ·exact .mk rfl k
 ·unfold gTry gSetR
  rw [h]
  show ((handOf CSX (fun c => .str c) c).bind fun d' => some (Res.rt d')) = _
  unfold handOf
  rw [if_pos hc]; rfl
noncomputable def due (cs : List (Int × Int)) : D := ansF (.str "TooLong") (.str "NoPlan") cs
theorem v_law_made {cs : List (Int × Int)} (hl : cs.length < 100000) : G_law_made [.list (cs.map dC)] = some (due cs) := by
 rw [E_law_made]
 refine of_gets ?_
 have e := call_of (n := 1) (g := gConsA (gVar 0) gNilA) (δ := [some (.list (cs.map dC)), none, none]) rfl rfl (v_plan_from hl)
 unfold due
 unfold ansF at e ⊢
 by_cases h0 : ((0 : Int), (0 : Int)) ∈ cs
 ·rw [if_pos h0] at e ⊢
  cases q : pwR (onT cs) 25 [0] 0 with
  | none =>
    rw [q] at e
    exact try_raise e (by simp) rfl
  | some p =>
    rw [q] at e
    refine seq_st [some (.list (cs.map dC)), some (dPl p), none] ?_ (ret (dPl p) rfl (.mk rfl rfl))
    unfold gTry gSetR
    rw [e]; rfl
 ·rw [if_neg h0] at e ⊢
  exact try_raise e (by simp) rfl
end MyLaw
namespace MyLaw
open PySem L2 Q1
theorem forD_end {t : D -> DS -> Option DS} {b : DS -> Option Res} (W : Nat -> DS -> Prop) (d : D) (ds : List D) : ∀ (k : Nat) (δ : DS), W k δ -> (∀ i x δ, ds[i]? = some x -> W (k + i) δ -> ∃ δ1, t x δ = some δ1 /\ ((∃ δ', b δ1 = some (.nx δ') /\ W (k + i + 1) δ') \/ b δ1 = some (.rt d))) -> (∀ δ, ¬ W (k + ds.length) δ) -> forD t b ds δ = some (.rt d) := by
 induction ds with
 | nil => exact fun k δ h _ hn => (hn δ h).elim
 | cons x ds ih =>
   intro k δ h hs hn
   obtain ⟨δ1, e1, h1⟩ := hs 0 x δ rfl h
   rw [forD, e1, Option.bind_some]
   rcases h1 with ⟨δ', e2, h2⟩ | e2
   ·rw [e2, Option.bind_some]
    refine ih (k + 1) δ' h2 (fun i y δ e w => ?_) fun δ z => hn δ ?_
    ·have := hs (i + 1) y δ e
     rw [show k + (i + 1) = k + 1 + i by lia] at this
     exact this w
    ·rw [List.length_cons, show k + (ds.length + 1) = k + 1 + ds.length by lia]; exact z
   ·rw [e2]; rfl
theorem forR_end {t : D -> DS -> Option DS} {b : DS -> Option Res} {lo : Int} {n : Nat} (W : Nat -> DS -> Prop) (d : D) {δ : DS} (h : W 0 δ) (hs : ∀ i δ, i < n -> W i δ -> ∃ δ1, t (.int (lo + i)) δ = some δ1 /\ ((∃ δ', b δ1 = some (.nx δ') /\ W (i + 1) δ') \/ b δ1 = some (.rt d))) (hn : ∀ δ, ¬ W n δ) : forD t b (rangeD lo n) δ = some (.rt d) := by
 refine forD_end W d (rangeD lo n) 0 δ h (fun i x δ e w => ?_) fun δ z => hn δ (by rw [Nat.zero_add, rangeD_len] at z; exact z)
 have hi := (List.getElem?_eq_some_iff.mp e).1
 rw [rangeD_len] at hi
 obtain ⟨_, rfl⟩ := rangeD_get e
 rw [Nat.zero_add] at w ⊢
 exact hs i δ hi w
structure Wk (cs : List (Int × Int)) (th ro : List Int) (ks : List (Int × Int)) (n i : Nat) : Prop where
 ri : Rise ro
 len : ro.length <= i
 mem : ∀ x, x ∈ ro ↔ x ∈ th /\ (x, (n : Int) - x) ∈ cs /\ x < (i : Int)
 lo : ∀ x : Int, (x, (n : Int) - x) ∈ ks ↔ x ∈ th
 hi : ∀ x : Int, (x, (n : Int) + 1 - x) ∈ ks ↔ x ∈ led ro
 up : ∀ c ∈ ks, c.1 + c.2 <= (n : Int) + 1
theorem Wk.beg {cs ks : List (Int × Int)} {th : List Int} {n : Nat} (hw : Rw th n) (lo : ∀ x : Int, (x, (n : Int) - x) ∈ ks ↔ x ∈ th) (up : ∀ c ∈ ks, c.1 + c.2 <= (n : Int)) : Wk cs th [] ks n 0 where
 ri := List.Pairwise.nil
 len := Nat.le_refl _
 mem x := ⟨fun h => by simp at h, fun h => by have := hw.2 x h.1; lia⟩
 lo := lo
 hi x := ⟨fun h => by have : x + ((n : Int) + 1 - x) <= n := up _ h; lia, fun h => by rcases mem_led.mp h with h | h <;> simp at h⟩
 up c h := by have := up c h; lia
theorem Wk.skip {cs ks : List (Int × Int)} {th ro : List Int} {n i : Nat} (h : Wk cs th ro ks n i) (hn : ¬ (((i : Int), (n : Int) - i) ∈ ks /\ ((i : Int), (n : Int) - i) ∈ cs)) : Wk cs th ro ks n (i + 1) where
 ri := h.ri
 len := Nat.le_succ_of_le h.len
 mem x := by
  rw [h.mem x]
  refine and_congr_right fun h1 => and_congr_right fun h2 => ⟨fun z => by lia, fun z => ?_⟩
  have : x ≠ (i : Int) := fun e => hn (by rw [<- e]; exact ⟨(h.lo x).mpr h1, h2⟩)
  lia
 lo := h.lo
 hi := h.hi
 up := h.up
theorem Wk.add {cs ks ks' : List (Int × Int)} {th ro : List Int} {n i : Nat} (h : Wk cs th ro ks n i) (h1 : ((i : Int), (n : Int) - i) ∈ ks) (h2 : ((i : Int), (n : Int) - i) ∈ cs) (hk : ∀ c, c ∈ ks' ↔ (c ∈ ks \/ c = ((i : Int) + 1, (n : Int) - i)) \/ c = ((i : Int), (n : Int) - i + 1)) : Wk cs th (ro ++ [(i : Int)]) ks' n (i + 1) where
 ri := List.pairwise_append.mpr ⟨h.ri, List.pairwise_singleton _ _, fun a ha b hb => by rw [List.mem_singleton.mp hb]; exact ((h.mem a).mp ha).2.2⟩
 len := by rw [List.length_append, List.length_singleton]; exact Nat.succ_le_succ h.len
 mem x := by
  rw [List.mem_append, List.mem_singleton, h.mem x]
  constructor
  ·rintro (⟨a, b, c⟩ | e)
   ·exact ⟨a, b, by lia⟩
   ·rw [e]; exact ⟨(h.lo _).mp h1, h2, by lia⟩
  ·rintro ⟨a, b, c⟩
   by_cases e : x = (i : Int)
   ·exact .inr e
   ·exact .inl ⟨a, b, by lia⟩
 lo x := by
  rw [hk, h.lo x]
  refine ⟨fun z => ?_, fun z => .inl (.inl z)⟩
  rcases z with (z | z) | z
  ·exact z
  ·obtain ⟨z1, z2⟩ := Prod.mk.inj z; lia
  ·obtain ⟨z1, z2⟩ := Prod.mk.inj z; lia
 hi x := by
  rw [hk, h.hi x, mem_led, mem_led, List.mem_append, List.mem_append, List.mem_singleton, List.mem_singleton]
  constructor
  ·rintro ((z | z) | z)
   ·exact z.imp .inl .inl
   ·exact .inr (.inr (by have := (Prod.mk.inj z).1; lia))
   ·exact .inl (.inr (Prod.mk.inj z).1)
  ·rintro ((z | z) | (z | z))
   ·exact .inl (.inl (.inl z))
   ·exact .inr (Prod.ext z (by show (n : Int) + 1 - x = (n : Int) - i + 1; lia))
   ·exact .inl (.inl (.inr z))
   ·exact .inl (.inr (Prod.ext (by show x = (i : Int) + 1; lia) (by show (n : Int) + 1 - x = (n : Int) - i; lia)))
 up c hc := by
  rcases (hk c).mp hc with (z | z) | z
  ·exact h.up c z
  ·rw [z]; show (i : Int) + 1 + ((n : Int) - i) <= _; lia
  ·rw [z]; show (i : Int) + ((n : Int) - i + 1) <= _; lia
theorem Wk.fin {cs ks : List (Int × Int)} {th ro : List Int} {n : Nat} (h : Wk cs th ro ks n (n + 1)) (hw : Rw th n) : ro = th.filter fun b => onT cs b n :=
 rising_ext h.ri (hw.flt _).1 fun x => by
  rw [h.mem x, List.mem_filter, decide_eq_true_eq]
  exact ⟨fun z => ⟨z.1, z.2.1⟩, fun z => ⟨z.1, z.2, by have := (hw.2 x z.1).2; lia⟩⟩
noncomputable def TE (n : Nat) (x : D) : Prop := PyData.canLay0 x = true /\ PyData.depth x <= n
theorem te_all {n : Nat} {l : List D} (h : ∀ x ∈ l, TE n x) : PyData.canLayAll0 l = true /\ PyData.depthAll l <= n := by
 induction l with
 | nil => exact ⟨rfl, Nat.zero_le _⟩
 | cons a l ih =>
   obtain ⟨h1, h2⟩ := h a List.mem_cons_self
   obtain ⟨h3, h4⟩ := ih fun x hx => h x (List.mem_cons_of_mem _ hx)
   refine ⟨by rw [PyData.canLayAll0, h1, h3]; rfl, ?_⟩
   rw [PyData.depthAll]
   exact Nat.max_le.mpr ⟨h2, h4⟩
theorem te_map {α : Type} {n : Nat} {enc : α -> D} (h : ∀ a, TE n (enc a)) (l : List α) : TE (n + 1) (.tuple (l.map enc)) /\ TE (n + 1) (.list (l.map enc)) := by
 obtain ⟨h1, h2⟩ := te_all (n := n) (l := l.map enc) fun x hx => by
  obtain ⟨a, _, rfl⟩ := List.mem_map.mp hx
  exact h a
 exact ⟨⟨by rw [PyData.canLay0]; exact h1, by rw [PyData.depth]; lia⟩, ⟨by rw [PyData.canLay0]; exact h1, by rw [PyData.depth]; lia⟩⟩
theorem te_int (i : Int) : TE 1 (.int i) := ⟨by rw [PyData.canLay0], by rw [PyData.depth]; lia⟩
theorem TE.sh {n : Nat} {x : D} (h : TE n x) (hn : n <= 60) : SeqAt.shaped x = true := by
 obtain ⟨a, b⟩ := h
 unfold SeqAt.shaped
 rw [a]; simp; lia
theorem deq_sh {a b : D} (h1 : SeqAt.shaped a = true) (h2 : SeqAt.shaped b = true) : dEq a b = some (.bool (PyData.eqv a b)) := by
 unfold dEq
 split
 ·rw [PyData.eqv]; rfl
 ·rw [if_pos (by rw [h1, h2]; rfl)]
theorem eqvAll_self {α : Type} {enc : α -> D} (h : ∀ a, PyData.eqv (enc a) (enc a) = true) (l : List α) : PyData.eqvAll (l.map enc) (l.map enc) = true := by
 induction l with
 | nil => rfl
 | cons a l ih => rw [List.map_cons, PyData.eqvAll, h, ih]; rfl
theorem eqv_int (i : Int) : PyData.eqv (.int i) (.int i) = true := by rw [PyData.eqv]; exact decide_eq_true rfl
theorem ne_pl (p : List (List Int)) : dNe (dPl p) (dPl p) = some (.bool false) := by
 have h := ((te_map (fun r => (te_map te_int r).1) p).1).sh (by decide)
 refine (dNe_of (deq_sh h h)).trans ?_
 rw [PyData.eqv, eqvAll_self fun r => by rw [PyData.eqv]; exact eqvAll_self eqv_int r]
 rfl
theorem sh_dC (c : Int × Int) : TE 2 (dC c) := (te_map te_int [c.1, c.2]).1
theorem eqv_dC (a c : Int × Int) : PyData.eqv (dC a) (dC c) = decide (a = c) := by
 obtain ⟨a1, a2⟩ := a
 obtain ⟨c1, c2⟩ := c
 simp [dC, PyData.eqv, PyData.eqvAll]
 rfl
theorem ne_dC (c d : Int × Int) : dNe (dC c) (dC d) = some (.bool (!decide (c = d))) := by
 rw [<- eqv_dC]
 exact dNe_of (deq_sh ((sh_dC c).sh (by decide)) ((sh_dC d).sh (by decide)))
theorem ne_cs (cs : List (Int × Int)) : dNe (.list (cs.map dC)) (.list (cs.map dC)) = some (.bool false) := by
 have h := ((te_map sh_dC cs).2).sh (by decide)
 refine (dNe_of (deq_sh h h)).trans ?_
 rw [PyData.eqv, eqvAll_self fun c => by rw [eqv_dC]; exact decide_eq_true rfl]
 rfl
theorem eq_nil (ro : List Int) : dEq (.list (ro.map .int)) (.list []) = some (.bool (decide (ro = []))) := by
 refine (deq_sh (((te_map te_int ro).2).sh (by decide)) (((te_map te_int []).2).sh (by decide))).trans ?_
 rw [PyData.eqv]
 cases ro with
 | nil => rfl
 | cons a r => rfl
theorem inT_dC (neg : Bool) (c : Int × Int) (es : List (Int × Int)) : dInT neg (dC c) (.list (es.map dC)) = some (.bool (decide (c ∈ es) != neg)) := by
 unfold dInT
 simp only
 rw [if_pos (by rw [(sh_dC c).sh (by decide), Bool.true_and, List.all_map]; exact List.all_eq_true.mpr fun x _ => (sh_dC x).sh (by decide))]
 congr 3
 rw [List.any_map, Bool.eq_iff_iff]
 simp [Function.comp, eqv_dC]
theorem andB_of {a b : DS -> Option Bool} {δ : DS} {x y : Bool} (h1 : a δ = some x) (h2 : b δ = some y) : gAnd a b δ = some (x && y) := by
 unfold gAnd
 rw [h1, Option.bind_some]
 cases x with
 | true => exact h2
 | false => rfl
theorem row_due {cs : List (Int × Int)} {th : List Int} {n : Nat} (hw : Rw th n) (hn : n <= 24) {kds : List (D × D)} {ks : List (Int × Int)} (hk : Ky kds ks) (lo : ∀ x : Int, (x, (n : Int) - x) ∈ ks ↔ x ∈ th) (up : ∀ c ∈ ks, c.1 + c.2 <= (n : Int)) (hl : kds.length <= 1 + 100 * n) (P e : Option D) :
  ∃ kds' ks' e', gFor (gRange1 (gConsA (g2 dAddV (gVar 3) (gC (.int (1)))) gNilA)) (gName' 5)
    (gIf (gAnd (gB (gDin true (gTupD (gConsA (gVar 5) (gConsA (g2 dSub (gVar 3) (gVar 5)) gNilA))) (gVar 1))) (gB (g2 (dInT false) (gTupD (gConsA (gVar 5) (gConsA (g2 dSub (gVar 3) (gVar 5)) gNilA))) (gVar 0)))) (gSeq (gApp 4 (gVar 5))
  (gSeq (gSetK 1 (gTupD (gConsA (g2 dAddV (gVar 5) (gC (.int (1)))) (gConsA (g2 dSub (gVar 3) (gVar 5)) gNilA))) (gC (.bool true)))
  (gSetK 1 (gTupD (gConsA (gVar 5) (gConsA (g2 dAddV (g2 dSub (gVar 3) (gVar 5)) (gC (.int (1)))) gNilA))) (gC (.bool true))))) gSkip) [some (.list (cs.map dC)), some (.dict kds), P, some (.int (n : Nat)), some (.list []), e]
   = some (.nx [some (.list (cs.map dC)), some (.dict kds'), P, some (.int (n : Nat)), some (.list ((th.filter fun b => onT cs b n).map .int)), e']) /\ Ky kds' ks' /\ (∀ x : Int, (x, ((n + 1 : Nat) : Int) - x) ∈ ks' ↔ x ∈ led (th.filter fun b => onT cs b n)) /\ (∀ c ∈ ks', c.1 + c.2 <= ((n + 1 : Nat) : Int)) /\ kds'.length <= 1 + 100 * (n + 1) := by
 obtain ⟨S, eS⟩ : ∃ S, S = some (PyData.list (cs.map dC)) := ⟨_, rfl⟩
 obtain ⟨δ', e1, kds', ks', ro, e', rfl, hk', w, hl'⟩ := forR_inv (t := gName' 5) (b := gIf (gAnd (gB (gDin true (gTupD (gConsA (gVar 5) (gConsA (g2 dSub (gVar 3) (gVar 5)) gNilA))) (gVar 1))) (gB (g2 (dInT false) (gTupD (gConsA (gVar 5) (gConsA (g2 dSub (gVar 3) (gVar 5)) gNilA))) (gVar 0)))) (gSeq (gApp 4 (gVar 5))
  (gSeq (gSetK 1 (gTupD (gConsA (g2 dAddV (gVar 5) (gC (.int (1)))) (gConsA (g2 dSub (gVar 3) (gVar 5)) gNilA))) (gC (.bool true)))
  (gSetK 1 (gTupD (gConsA (gVar 5) (gConsA (g2 dAddV (g2 dSub (gVar 3) (gVar 5)) (gC (.int (1)))) gNilA))) (gC (.bool true))))) gSkip) (lo := 0) (n := n + 1) (δ := [S, some (.dict kds), P, some (.int (n : Nat)), some (.list []), e])
  (fun i δ => ∃ kds ks ro e, δ = [S, some (.dict kds), P, some (.int (n : Nat)), some (.list (ro.map .int)), e] /\ Ky kds ks /\ Wk cs th ro ks n i /\ kds.length <= 1 + 100 * n + 2 * i) ⟨kds, ks, [], e, rfl, hk, .beg hw lo up, by lia⟩ (by
   rintro i δ hi ⟨kds, ks, ro, e, rfl, hk, w, hl⟩
   rw [Int.zero_add]
   have hb : gAnd (gB (gDin true (gTupD (gConsA (gVar 5) (gConsA (g2 dSub (gVar 3) (gVar 5)) gNilA))) (gVar 1))) (gB (g2 (dInT false) (gTupD (gConsA (gVar 5) (gConsA (g2 dSub (gVar 3) (gVar 5)) gNilA))) (gVar 0))) [S, some (.dict kds), P, some (.int (n : Nat)), some (.list (ro.map .int)), some (.int (i : Nat))] = some (decide (((i : Int), (n : Int) - i) ∈ ks) && decide (((i : Int), (n : Int) - i) ∈ cs)) :=
    andB_of (gB_of ((din_of (c := ((i : Int), (n : Int) - i)) hk rfl rfl).trans (by rw [beq_true]))) (gB_of (g2_of rfl (by rw [eS]; rfl) ((inT_dC false ((i : Int), (n : Int) - i) cs).trans (by rw [Bool.bne_false]))))
   by_cases h1 : ((i : Int), (n : Int) - i) ∈ ks /\ ((i : Int), (n : Int) - i) ∈ cs
   ·have l1 := dPutD_len kds (kC ((i : Int) + 1, (n : Int) - i)) (.bool true)
    have l2 := dPutD_len (dPutD kds (kC ((i : Int) + 1, (n : Int) - i)) (.bool true)) (kC ((i : Int), (n : Int) - i + 1)) (.bool true)
    have hro := w.len
    refine ⟨_, [S, some (.dict (dPutD (dPutD kds (kC ((i : Int) + 1, (n : Int) - i)) (.bool true)) (kC ((i : Int), (n : Int) - i + 1)) (.bool true))), P, some (.int (n : Nat)), some (.list ((ro ++ [(i : Int)]).map .int)), some (.int (i : Nat))], rfl, ?_, _, _, _, _, rfl, (hk.put ((i : Int) + 1, (n : Int) - i) (.bool true)).put ((i : Int), (n : Int) - i + 1) (.bool true), w.add h1.1 h1.2 fun c => by rw [if_mem, if_mem], by lia⟩
    refine st_if true (hb.trans (by rw [decide_eq_true h1.1, decide_eq_true h1.2]; rfl)) (fun _ => ?_) fun z => nomatch z
    refine st_seq [S, some (.dict kds), P, some (.int (n : Nat)), some (.list ((ro ++ [(i : Int)]).map .int)), some (.int (i : Nat))] ((app_of (ds := ro.map .int) (d := .int (i : Nat)) rfl rfl (by rw [List.length_map]; lia)).trans (by rw [List.map_append]; rfl)) ?_
    exact st_seq [S, some (.dict (dPutD kds (kC ((i : Int) + 1, (n : Int) - i)) (.bool true))), P, some (.int (n : Nat)), some (.list ((ro ++ [(i : Int)]).map .int)), some (.int (i : Nat))] (setK_of (c := ((i : Int) + 1, (n : Int) - i)) rfl rfl rfl (by lia)) (setK_of (c := ((i : Int), (n : Int) - i + 1)) rfl rfl rfl (by lia))
   ·refine ⟨_, [S, some (.dict kds), P, some (.int (n : Nat)), some (.list (ro.map .int)), some (.int (i : Nat))], rfl, st_no (hb.trans ?_), _, _, _, _, rfl, hk, w.skip h1, by lia⟩
    congr 1
    rw [Bool.eq_false_iff]
    intro z
    rw [Bool.and_eq_true, decide_eq_true_eq, decide_eq_true_eq] at z
    exact h1 z)
 have er := w.fin hw
 refine ⟨kds', ks', e', ?_, hk', fun x => ?_, fun c hc => ?_, by lia⟩
 ·rw [<- er, <- eS]
  unfold gFor
  rw [range1_of (n := n + 1) rfl (by lia), Option.bind_some]
  exact e1
 ·rw [<- er, <- w.hi x, show ((n + 1 : Nat) : Int) = (n : Int) + 1 from rfl]
 ·have := w.up c hc
  lia
structure Wd (cs : List (Int × Int)) (n : Nat) (kds : List (D × D)) (ks : List (Int × Int)) (pl : List (List Int)) (th : List Int) : Prop where
 k : Ky kds ks
 lo : ∀ x : Int, (x, (n : Int) - x) ∈ ks ↔ x ∈ th
 up : ∀ c ∈ ks, c.1 + c.2 <= (n : Int)
 l : kds.length <= 1 + 100 * n
 ln : pl.length = n
 w : Rw th n
 p : (pwR (onT cs) (25 - n) th n).map (pl ++ ·) = pwR (onT cs) 25 [0] 0
noncomputable def WdS (cs : List (Int × Int)) (n : Nat) (δ : DS) : Prop := n <= 24 /\ ∃ kds ks pl th a b e, δ = [some (.list (cs.map dC)), some (.dict kds), some (.list (pl.map dR)), a, b, e] /\ Wd cs n kds ks pl th
theorem v_law_due (cs : List (Int × Int)) : G_law_due [.list (cs.map dC)] = some (due cs) := by
 rw [E_law_due]
 refine of_gets ?_
 have hc : gB (g2 (dInT true) (gTupD (gConsA (gC (.int (0))) (gConsA (gC (.int (0))) gNilA))) (gVar 0)) [some (.list (cs.map dC)), none, none, none, none, none] = some (decide (((0 : Int), (0 : Int)) ∈ cs) != true) := gB_of (g2_of rfl rfl (inT_dC true (0, 0) cs))
 unfold due ansF
 by_cases h0 : ((0 : Int), (0 : Int)) ∈ cs
 rotate_left
 ·rw [if_neg h0]
  exact seq_iff true (hc.trans (by rw [decide_eq_false h0]; rfl)) (fun _ => .mk rfl rfl) fun z => nomatch z
 rw [if_pos h0]
 refine seq_no (hc.trans (by rw [decide_eq_true h0]; rfl)) ?_
 refine seq_st [some (.list (cs.map dC)), some (.dict [(dC (0, 0), .bool true)]), none, none, none, none] rfl ?_
 refine seq_st [some (.list (cs.map dC)), some (.dict [(dC (0, 0), .bool true)]), some (.list []), none, none, none] rfl ?_
 rw [gSeq_rt (d := ansW (.str "TooLong") (pwR (onT cs) 25 [0] 0))]
 ·exact .mk rfl rfl
 unfold gFor
 rw [range1_of (n := 40) rfl (by decide), Option.bind_some]
 refine forR_end (WdS cs) (ansW (.str "TooLong") (pwR (onT cs) 25 [0] 0))
  ⟨by decide, [(dC (0, 0), .bool true)], [(0, 0)], [], [0], none, none, none, rfl, rfl, fun x => ?_, fun c hc => ?_, by decide, rfl, rw0, by cases pwR (onT cs) 25 [0] 0 <;> rfl⟩ ?_ fun δ z => absurd z.1 (by decide)
 ·rw [List.mem_singleton, List.mem_singleton]
  exact ⟨fun h => (Prod.mk.inj h).1, fun h => Prod.ext h (by rw [h]; rfl)⟩
 ·rw [List.mem_singleton.mp hc]; decide
 rintro n δ - ⟨hn, kds, ks, pl, th, a, b, e, rfl, W⟩
 have hw := W.w
 have hp := W.p
 have hpl := W.ln
 rw [Int.zero_add]
 refine ⟨_, rfl, ?_⟩
 obtain ⟨kds', ks', e', e1, hk', lo', up', hl'⟩ := row_due (cs := cs) hw hn W.k W.lo W.up W.l (some (.list (pl.map dR))) e
 obtain ⟨ro, er⟩ : ∃ ro, ro = th.filter fun b => onT cs b n := ⟨_, rfl⟩
 have hro : Rw ro n := by rw [er]; exact hw.flt _
 rw [<- er] at e1 lo'
 obtain ⟨S, eS⟩ : ∃ S, S = some (PyData.list (cs.map dC)) := ⟨_, rfl⟩
 rw [<- eS] at e1 ⊢
 have e2 : gB (g2 dEq (gVar 4) (gLst (gLstN gNilA))) [S, some (.dict kds'), some (.list (pl.map dR)), some (.int (n : Nat)), some (.list (ro.map .int)), e'] = some (decide (ro = [])) := gB_of (g2_of rfl rfl (eq_nil ro))
 have e3 : gB (g2 dEq (gVar 3) (gC (.int (24)))) [S, some (.dict kds'), some (.list (pl.map dR)), some (.int (n : Nat)), some (.list (ro.map .int)), e'] = some (decide (n = 24)) := by
  refine gB_of ?_
  show some (PyData.bool (decide ((n : Int) = 24))) = _
  rw [show decide ((n : Int) = 24) = decide (n = 24) from decide_eq_decide.mpr ⟨fun h => by lia, fun h => by lia⟩]
 obtain ⟨k, hk25⟩ : ∃ k, 25 - n = k + 1 := ⟨24 - n, by lia⟩
 rw [hk25] at hp
 by_cases hq : ro = []
 ·have hq' := hq
  rw [er] at hq'
  rw [pwR_nil hq'] at hp
  rw [<- hp]
  refine .inr (st_seq [S, some (.dict kds), some (.list (pl.map dR)), some (.int (n : Nat)), some (.list []), e] rfl (st_seq _ e1 ?_))
  refine gSeq_rt (st_if true (e2.trans (by rw [decide_eq_true hq])) (fun _ => ?_) fun z => nomatch z)
  show some (Res.rt (.tuple (pl.map dR))) = some (Res.rt (dPl (pl ++ [])))
  rw [List.append_nil]; rfl
 ·have hq' := hq
  rw [er] at hq'
  rw [pwR_cons pl hq', <- er] at hp
  by_cases h24 : n = 24
  ·have : k = 0 := by lia
   subst this
   rw [<- hp]
   refine .inr (st_seq [S, some (.dict kds), some (.list (pl.map dR)), some (.int (n : Nat)), some (.list []), e] rfl (st_seq _ e1 (st_seq _ (st_no (e2.trans (by rw [decide_eq_false hq]))) ?_)))
   exact gSeq_rt (st_if true (e3.trans (by rw [decide_eq_true h24])) (fun _ => rfl) fun z => nomatch z)
  ·refine .inl ⟨[S, some (.dict kds'), some (.list ((pl ++ [ro]).map dR)), some (.int (n : Nat)), some (.list (ro.map .int)), e'], ?_, by lia, kds', ks', pl ++ [ro], led ro, _, _, _, by rw [eS], hk', lo', up', hl', ?_, hro.led, ?_⟩
   ·refine st_seq [S, some (.dict kds), some (.list (pl.map dR)), some (.int (n : Nat)), some (.list []), e] rfl (st_seq _ e1 (st_seq _ (st_no (e2.trans (by rw [decide_eq_false hq]))) (st_seq _ (st_no (e3.trans (by rw [decide_eq_false h24]))) ?_)))
    exact (app_of (ds := pl.map dR) (d := dR ro) rfl rfl (by rw [List.length_map]; lia)).trans (by rw [List.map_append]; rfl)
   ·rw [List.length_append, List.length_singleton, hpl]
   ·rw [show 25 - (n + 1) = k by lia]
    exact hp
end MyLaw
namespace MyLaw
open PySem L2 Q1
theorem deq_ss {a : Str} (ha : PyData.strOk a = true) : dEq (.str a) (.str a) = some (.bool true) := by
 unfold dEq
 simp [SeqAt.shaped, PyData.canLay0, PyData.depth, PyData.eqv, ha]
theorem like_str {a : Str} (ha : PyData.strOk a = true) : G_law_like [.str a, .str a] = some (.bool true) := by
 rw [E_law_like]
 exact of_gets (seq_iff true (gTru_of rfl) (fun _ => seq_ret (.bool true) (andV_of rfl (g2_of rfl rfl (deq_ss ha))) (.mk rfl rfl)) fun z => nomatch z)
theorem like_pl {p : List (List Int)} (h : ∀ r ∈ p, r.length <= 100000) : G_law_like [dPl p, dPl p] = some (.bool true) := by
 rw [E_law_like]
 refine of_gets ?_
 refine seq_no (gTru_of rfl) (seq_no (or_of (not_of' (gTru_of (b := true) rfl)) (gB_of (g2_of rfl rfl (ne_pl p)))) ?_)
 refine seq_for dR p (fun _ δ => ∃ x, δ = [some (dPl p), some (dPl p), x]) rfl ⟨none, rfl⟩ ?_ fun δ' _ => ret (.bool true) rfl (.mk rfl rfl)
 rintro i r δ hi ⟨x, rfl⟩
 refine ⟨_, [some (dPl p), some (dPl p), some (dR r)], rfl, st_no (or_of (not_of' (gTru_of (b := true) rfl)) (not_of' (gTru_of (b := true) ?_))), _, rfl⟩
 refine b1_of (cons_of (lst_of (comp_of PyData.int PyData.bool (fun _ => true) r rfl (h r (List.mem_of_getElem? hi)) fun i _ => call_of (cons_of rfl rfl) rfl (v_law_whole i))) rfl) ?_
 show ((boolsD _).map fun bs => PyData.bool (bs.all id)) = _
 rw [boolsD_map, Option.map_some, List.all_map]
 congr 2
 exact List.all_eq_true.mpr fun _ _ => rfl
theorem pwR_len {P : Int -> Nat -> Bool} (k : Nat) : ∀ (th : List Int) (n : Nat) (p : List (List Int)), Rw th n -> pwR P k th n = some p -> ∀ r ∈ p, r.length <= n + k := by
 induction k with
 | zero => exact fun _ _ _ _ h => nomatch h
 | succ k ih =>
   intro th n p hw h r hr
   rw [pwR] at h
   split at h
   ·cases h; cases hr
   ·cases q : pwR P k (led (th.filter fun b => P b n)) (n + 1) with
    | none => rw [q] at h; cases h
    | some s =>
      rw [q] at h
      cases h
      rcases List.mem_cons.mp hr with z | z
      ·have := (hw.flt fun b => P b n).len
       rw [z]; lia
      ·have := ih _ _ _ (hw.flt _).led q r z
       lia
theorem v_law_like (cs : List (Int × Int)) : G_law_like [due cs, due cs] = some (.bool true) := by
 unfold due ansF
 split
 ·cases q : pwR (onT cs) 25 [0] 0 with
  | none => exact like_str (by decide +kernel)
  | some p => exact like_pl fun r hr => by have := pwR_len 25 [0] 0 p rw0 q r hr; lia
 ·exact like_str (by decide +kernel)
theorem slL_of {α : Type} (enc : α -> D) {a : DS -> Option D} {lo hi : DS -> Option (Option Int)} {δ : DS} {l : List α} {x y : Option Int} (h1 : a δ = some (.list (l.map enc))) (h2 : lo δ = some x) (h3 : hi δ = some y) : ∃ m : List α, gLst (gSlL a lo hi) δ = some (.list (m.map enc)) /\ m.length <= l.length := by
 obtain ⟨m, e, hm, _⟩ := cutD_map enc l x y
 refine ⟨m, lst_of ?_, hm⟩
 unfold gSlL
 rw [h1, h2, h3]
 exact congrArg some e
theorem ext_of {i : Nat} {g : DS -> Option (List D)} {δ : DS} {ds zs : List D} (h1 : gVar i δ = some (.list ds)) (h2 : g δ = some zs) (h3 : ds.length + zs.length <= 100000) : gExt i g δ = some (.nx (δ.set i (some (.list (ds ++ zs))))) := by
 unfold gExt
 rw [h1, h2]
 show (if ds.length + zs.length <= 100000 then _ else _) = _
 rw [if_pos h3]
theorem items_ofC {g : DS -> Option D} {δ : DS} {l : List D} (h : g δ = some (.list l)) : gItems g δ = some l := by unfold gItems; rw [h]; rfl
theorem orB_of {a b : DS -> Option Bool} {δ : DS} {x y : Bool} (h1 : a δ = some x) (h2 : b δ = some y) : gOr a b δ = some (x || y) := by
 unfold gOr
 rw [h1, Option.bind_some]
 cases x with
 | true => rfl
 | false => exact h2
theorem mod_pair (x m : Int) (h : 0 < m) (h2 : m.natAbs < 2 ^ 70) {δ : DS} (e : gVar 0 δ = some (.int x)) : gTupD (gConsA (g2 dMod (gVar 0) (gC (.int m))) (gConsA (g2 dMod (g2 dDiv (gVar 0) (gC (.int m))) (gC (.int m))) gNilA)) δ = some (dC (x % m, x / m % m)) := by
 unfold gTupD
 rw [cons_of (g2_of e rfl (d_mod h)) (cons_of (g2_of (g2_of e rfl (dd m h h2)) rfl (d_mod h)) rfl)]
 rfl
noncomputable def Cs (ds : List D) : Prop := ∃ cs : List (Int × Int), ds = cs.map dC /\ cs ≠ [] /\ cs.length <= 1000
theorem v_law_counts (ns : List Int) (hl : ns.length <= 63) (way : Int) : Gets (G_law_counts [.list (ns.map .int), .int way]) Cs := by
 rw [E_law_counts]
 obtain ⟨S, eS⟩ : ∃ S, S = some (PyData.list (ns.map .int)) := ⟨_, rfl⟩
 obtain ⟨c, ec⟩ : ∃ c, c = ns.getD 2 0 := ⟨_, rfl⟩
 have v0 : ∀ {t : DS}, gVar 0 (S :: t) = some (.list (ns.map .int)) := fun {t} => by rw [eS]; rfl
 have cell : ∀ (k : Nat) (t : DS), gCall G_law_cell 2 (gConsA (gVar 0) (gConsA (gC (.int (k : Nat))) gNilA)) (S :: t) = some (.int (ns.getD k 0)) := fun k t => call_of (cons_of v0 (cons_of rfl rfl)) rfl (v_law_cell ns k)
 rw [<- eS]
 refine seq_st [S, some (.int way), some (.int c), none, none, none, none, none, none] (by rw [ec]; exact set_of (cell 2 _)) ?_
 refine seq_iff (decide (way = 0)) (gB_of (g2_of rfl rfl rfl)) (fun _ => ?_) fun _ => ?_
 ·rw [seq_assoc]
  obtain ⟨_, e1, l1, rfl, hl1, _⟩ := v_law_digits c 2 60 (by decide) (bt_up (bt_of (m := 4) (by decide)) (by decide)) (by decide)
  obtain ⟨_, e2, l2, rfl, hl2, _⟩ := v_law_mixes c 2 60 (by decide) (by decide)
  refine seq_st [S, some (.int way), some (.int c), some (.list (l1.map .int)), none, none, none, none, none] (set_of (lst_of (callN_of (cons_of rfl (cons_of rfl (cons_of rfl rfl))) rfl e1))) ?_
  have p18 : dPow (.int 10) (.int 18) = some (.int (10 ^ 18)) := d_pow (k := 18) (by decide) (by decide)
  have hc : gB (gChain dLt dLt (g1 dNeg (g2 dPow (gC (.int (10))) (gC (.int (18))))) (gVar 2) (g2 dPow (gC (.int (10))) (gC (.int (18))))) [S, some (.int way), some (.int c), some (.list (l1.map .int)), none, none, none, none, none] = some (decide (-(10 ^ 18 : Int) < c) && decide (c < (10 ^ 18 : Int))) :=
   gB_of (chain_b (x := .int (-(10 ^ 18 : Int))) (by unfold g1; rw [show g2 dPow (gC (.int (10))) (gC (.int (18))) _ = _ from g2_of rfl rfl p18]; rfl) rfl rfl (g2_of rfl rfl p18) rfl)
  obtain ⟨dg, hdg, edg⟩ : ∃ dg : List Int, dg.length = 60 /\ gIf (gB (gChain dLt dLt (g1 dNeg (g2 dPow (gC (.int (10))) (gC (.int (18))))) (gVar 2) (g2 dPow (gC (.int (10))) (gC (.int (18)))))) (gSet 3 (gLst (gCallN G_law_mixes 3 (gConsA (gVar 2) (gConsA (gC (.int (2))) (gConsA (gC (.int (60))) gNilA)))))) gSkip [S, some (.int way), some (.int c), some (.list (l1.map .int)), none, none, none, none, none] = some (.nx [S, some (.int way), some (.int c), some (.list (dg.map .int)), none, none, none, none, none]) := by
   cases q : (decide (-(10 ^ 18 : Int) < c) && decide (c < (10 ^ 18 : Int))) with
   | true => exact ⟨l2, hl2, st_if true (hc.trans (by rw [q])) (fun _ => set_of (lst_of (callN_of (cons_of rfl (cons_of rfl (cons_of rfl rfl))) rfl e2))) fun z => nomatch z⟩
   | false => exact ⟨l1, hl1, st_no (hc.trans (by rw [q]))⟩
  rw [seq_assoc]
  refine seq_st _ edg ?_
  have e3 := compL_of (gi := gRange1 (gConsA (gC (.int (60))) gNilA)) (ix := [3]) (gc := gOr (gB (g2 dEq (g2 dIx (gVar 1) (gVar 0)) (gC (.int (1))))) (gB (g2 dEq (gVar 0) (gC (.int (0)))))) (ge := gTupD (gConsA (g2 dMod (gVar 0) (gC (.int (8)))) (gConsA (g2 dDiv (gVar 0) (gC (.int (8)))) gNilA))) (δ := [S, some (.int way), some (.int c), some (.list (dg.map .int)), none, none, none, none, none])
   (fun k : Nat => PyData.int (0 + (k : Int))) dC (fun k => ((0 + (k : Int)) % 8, (0 + (k : Int)) / 8)) (fun k => decide (dg.getD k 0 = 1) || decide (0 + (k : Int) = 0)) (List.range 60) (range1_of (n := 60) rfl (by decide)) (by rw [List.length_range]; decide) (fun k hk => ?_) fun k _ _ => ?_
  ·refine seq_ret _ (lst_of e3) (.mk rfl ⟨_, rfl, fun z => ?_, ?_⟩)
   ·have : (0 : Nat) ∈ (List.range 60).filter fun k => decide (dg.getD k 0 = 1) || decide (0 + (k : Int) = 0) := List.mem_filter.mpr ⟨List.mem_range.mpr (by decide), by rw [show decide (0 + ((0 : Nat) : Int) = 0) = true from rfl, Bool.or_true]⟩
    rw [List.map_eq_nil_iff.mp z] at this
    cases this
   ·have : (List.range 60).length = 60 := List.length_range
    rw [List.length_map]
    exact Nat.le_trans (List.length_filter_le _ _) (by lia)
  ·have hk : k < dg.length := by rw [hdg]; exact List.mem_range.mp hk
   refine orB_of (gB_of (g2_of (g2_of rfl rfl ?_) rfl (dEq_ii (dg.getD k 0) 1))) (gB_of (g2_of rfl rfl rfl))
   rw [Int.zero_add]
   exact atI_nat (by rw [List.getElem?_map, List.getD_eq_getElem?_getD, List.getElem?_eq_getElem hk]; rfl)
  ·unfold gTupD
   rw [cons_of (g2_of rfl rfl (d_mod (by decide))) (cons_of (g2_of rfl rfl (dd 8 (by decide) (by decide))) rfl)]
   rfl
 rw [seq_skip]
 refine seq_iff (decide (way = 1)) (gB_of (g2_of rfl rfl rfl)) (fun _ => ?_) fun _ => ?_
 ·obtain ⟨m, em, hm⟩ := slL_of PyData.int (lo := gPart (gC (.int 2))) (hi := gPart (gC (.int 62))) (v0 (t := [some (.int way), some (.int c), none, none, none, none, none, none])) rfl rfl
  have e1 := comp_of (ix := []) (ge := gTupD (gConsA (g2 dMod (gVar 0) (gC (.int (6)))) (gConsA (g2 dMod (g2 dDiv (gVar 0) (gC (.int (6)))) (gC (.int (6)))) gNilA))) PyData.int dC (fun x => (x % 6, x / 6 % 6)) m (items_ofC em) (by lia) fun x _ => mod_pair x 6 (by decide) (by decide) rfl
  refine seq_ret _ (lst_of (cat_of (lst_of e1) (show _ = some (PyData.list ([(0, 0)].map dC)) from rfl) (by rw [List.length_map, List.length_map]; show m.length + 1 <= _; lia))) (.mk rfl ⟨m.map (fun x => (x % 6, x / 6 % 6)) ++ [(0, 0)], by rw [List.map_append], by simp, ?_⟩)
  rw [List.length_append, List.length_map, List.length_singleton]
  lia
 rw [seq_skip]
 refine seq_iff (decide (way = 2)) (gB_of (g2_of rfl rfl rfl)) (fun _ => ?_) fun _ => ?_
 ·rw [seq_assoc]
  refine seq_st [S, some (.int way), some (.int c), none, some (.int (c % 25)), none, none, none, none] (set_of (g2_of rfl rfl (d_mod (by decide)))) ?_
  have q0 := Int.emod_nonneg (c / 25) (b := 8) (by decide)
  have q1 := Int.emod_lt_of_pos (c / 25) (show (0 : Int) < 8 by decide)
  obtain ⟨n, hn⟩ : ∃ n : Nat, 20 + c / 25 % 8 = (n : Int) := ⟨(20 + c / 25 % 8).toNat, by lia⟩
  have er : gConsA (g2 dAddV (gC (.int (20))) (g2 dMod (g2 dDiv (gVar 2) (gC (.int (25)))) (gC (.int (8))))) gNilA [S, some (.int way), some (.int c), none, some (.int (c % 25)), none, none, none, none] = some [.int (n : Nat)] := by
   rw [<- hn]
   exact cons_of (g2_of rfl (g2_of (g2_of rfl rfl (dd 25 (by decide) (by decide))) rfl (d_mod (by decide))) rfl) rfl
  have e1 := comp_of (ix := [4]) (ge := gTupD (gConsA (gB1 dMin2 (gConsA (gVar 0) (gConsA (gVar 1) gNilA))) (gConsA (gB1 dMax2 (gConsA (gC (.int (0))) (gConsA (g2 dSub (gVar 0) (gVar 1)) gNilA))) gNilA))) (fun k : Nat => PyData.int (0 + (k : Int))) dC (fun k => (if c % 25 < 0 + (k : Int) then c % 25 else 0 + (k : Int), if 0 + (k : Int) - c % 25 > 0 then 0 + (k : Int) - c % 25 else 0)) (List.range n) (range1_of er (by lia)) (by rw [List.length_range]; lia) fun k _ => rfl
  refine seq_ret _ (lst_of e1) (.mk rfl ⟨_, rfl, fun z => ?_, by rw [List.length_map, List.length_range]; lia⟩)
  have := congrArg List.length z
  rw [List.length_map, List.length_range] at this
  simp at this
  lia
 rw [seq_skip]
 obtain ⟨m, hm1, hm2, em⟩ := v_law_most (ns.getD 1 0)
 obtain ⟨_, ep, p, rfl, hp, hpl, h25⟩ := v_law_plan (ns.getD 0 0) m hm1 (by lia)
 refine seq_st [S, some (.int way), some (.int c), none, none, some (dPl p), none, none, none] (set_of (call_of (cons_of (cell 0 _) (cons_of (call_of (cons_of (cell 1 _) rfl) rfl em) rfl)) rfl ep)) ?_
 refine seq_st [S, some (.int way), some (.int c), none, none, some (dPl p), some (.list []), none, none] rfl ?_
 refine seq_for (fun x : List Int × Nat => PyData.tuple [.int (x.2 : Nat), dR x.1]) p.zipIdx (fun i δ => ∃ (cs : List (Int × Int)) (a b : Option D), δ = [S, some (.int way), some (.int c), none, none, some (dPl p), some (.list (cs.map dC)), a, b] /\ cs.length <= 25 * i /\ (0 < i -> cs ≠ [])) ?_ ⟨[], none, none, rfl, Nat.le_refl _, fun z => (Nat.lt_irrefl 0 z).elim⟩ ?_ ?_
 ·show some (enumD (p.map dR)) = _
  unfold enumD
  rw [List.zipIdx_map, List.map_map]
  rfl
 ·rintro i ⟨r, n⟩ δ hi ⟨cs, a, b, rfl, hcl, hcn⟩
  have hip := (List.getElem?_eq_some_iff.mp hi).1
  rw [List.length_zipIdx] at hip
  rw [List.getElem?_zipIdx] at hi
  obtain ⟨r', er, e2⟩ := Option.map_eq_some_iff.mp hi
  obtain ⟨rfl, rfl⟩ := Prod.mk.inj e2
  have hr := h25 r' (List.mem_of_getElem? er)
  have e3 := comp_of (gi := gItems (gVar 8)) (ix := [7]) (ge := gTupD (gConsA (gVar 0) (gConsA (g2 dSub (gVar 1) (gVar 0)) gNilA))) (δ := [S, some (.int way), some (.int c), none, none, some (dPl p), some (.list (cs.map dC)), some (.int ((0 + i : Nat) : Int)), some (dR r')]) PyData.int dC (fun b => (b, ((0 + i : Nat) : Int) - b)) r' rfl (by lia) fun x _ => rfl
  refine ⟨_, [S, some (.int way), some (.int c), none, none, some (dPl p), some (.list ((cs ++ r'.map fun b => (b, ((0 + i : Nat) : Int) - b)).map dC)), some (.int ((0 + i : Nat) : Int)), some (dR r')], rfl, ?_, _, _, _, rfl, ?_, fun _ z => ?_⟩
  ·refine (ext_of rfl e3 (by simp only [List.length_map]; lia)).trans ?_
   rw [List.map_append]; rfl
  ·rw [List.length_append, List.length_map]; lia
  ·obtain ⟨q, rfl, hc⟩ := hp.ex
   obtain ⟨z1, z2⟩ := List.append_eq_nil_iff.mp z
   by_cases h0 : 0 < i
   ·exact hcn h0 z1
   ·have : i = 0 := by lia
    subst this
    cases er
    cases z2
 ·rintro δ' ⟨cs, a, b, rfl, hcl, hcn⟩
  rw [List.length_zipIdx] at hcl hcn
  obtain ⟨m', em', hm'⟩ := slL_of PyData.int (lo := gPart (gC (.int 3))) (hi := gPart (gC (.int 12))) (v0 (t := [some (.int way), some (.int c), none, none, some (dPl p), some (.list (cs.map dC)), a, b])) rfl rfl
  have e1 := comp_of (ix := []) (ge := gTupD (gConsA (g2 dMod (gVar 0) (gC (.int (9)))) (gConsA (g2 dMod (g2 dDiv (gVar 0) (gC (.int (9)))) (gC (.int (9)))) gNilA))) PyData.int dC (fun x => (x % 9, x / 9 % 9)) m' (items_ofC em') (by lia) fun x _ => mod_pair x 9 (by decide) (by decide) rfl
  refine ret _ (lst_of (cat_of (x := cs.map dC) rfl (lst_of e1) (by simp only [List.length_map]; lia))) (.mk rfl ⟨cs ++ m'.map (fun x => (x % 9, x / 9 % 9)), by rw [List.map_append], fun z => ?_, ?_⟩)
  ·obtain ⟨q, rfl, hc⟩ := hp.ex
   exact hcn (by rw [List.length_cons]; lia) (List.append_eq_nil_iff.mp z).1
  ·rw [List.length_append, List.length_map]; lia
theorem callSh_of {G : List D -> Option D} {n : Nat} {g : DS -> Option (List D)} {δ : DS} {ds : List D} {d : D} (h : g δ = some ds) (hn : ds.length = n) (hG : G ds = some d) (hd : noL d = true) : gCallSh G n g δ = some d := by
 unfold gCallSh
 rw [h, Option.bind_some, if_pos hn, hG, Option.bind_some, if_pos hd]
end MyLaw
namespace MyLaw
open PySem L2 Q1
theorem noLs_map {α : Type} {enc : α -> D} (h : ∀ a, noL (enc a) = true) (l : List α) : noLs (l.map enc) = true := by
 induction l with
 | nil => rfl
 | cons a l ih => rw [List.map_cons, noLs, h, ih]; rfl
theorem noL_due (cs : List (Int × Int)) : noL (due cs) = true := by
 unfold due ansF
 split
 ·cases pwR (onT cs) 25 [0] 0 with
  | none => rfl
  | some p =>
    show noL (.tuple _) = true
    rw [noL]
    refine noLs_map (fun r => ?_) p
    show noL (.tuple _) = true
    rw [noL]
    exact noLs_map (fun i => rfl) r
 ·rfl
theorem law_true (ns : List Int) (h : ns.length <= 63) : G_law [.list (ns.map .int)] = some (.bool true) := by
 rw [E_law]
 refine of_gets ?_
 obtain ⟨S, eS⟩ : ∃ S, S = some (PyData.list (ns.map .int)) := ⟨_, rfl⟩
 have cell : ∀ (k : Nat) (t : DS), gCall G_law_cell 2 (gConsA (gVar 0) (gConsA (gC (.int (k : Nat))) gNilA)) (S :: t) = some (.int (ns.getD k 0)) := fun k t => call_of (cons_of (by rw [eS]; rfl) (cons_of rfl rfl)) rfl (v_law_cell ns k)
 obtain ⟨way, ew⟩ : ∃ way, way = ns.getD 1 0 / 100 % 5 := ⟨_, rfl⟩
 obtain ⟨_, ec, cs, rfl, hne, hcl⟩ := v_law_counts ns h way
 have hpos : (0 : Int) < (cs.length : Int) := by
  have := List.length_pos_iff.mpr hne
  lia
 obtain ⟨turn, et⟩ : ∃ turn, turn = ns.getD 2 0 % (cs.length : Int) := ⟨_, rfl⟩
 rw [<- eS]
 refine seq_st [S, some (.int way), none, none, none] (by rw [ew]; exact set_of (g2_of (g2_of (cell 1 _) rfl (dd 100 (by decide) (by decide))) rfl (d_mod (by decide)))) ?_
 refine seq_st [S, some (.int way), some (.list (cs.map dC)), none, none] (setN_of (callN_of (cons_of (by rw [eS]; rfl) (cons_of rfl rfl)) rfl ec)) ?_
 have hlen : gB1 dLen (gConsA (gVar 2) gNilA) [S, some (.int way), some (.list (cs.map dC)), none, none] = some (.int (cs.length : Nat)) := by
  show some (PyData.int (((cs.map dC).length : Nat) : Int)) = _
  rw [List.length_map]
 refine seq_st [S, some (.int way), some (.list (cs.map dC)), some (.int turn), none] (by rw [et]; exact set_of (g2_of (cell 2 _) hlen (d_mod hpos))) ?_
 have v2 : gVar 2 [S, some (.int way), some (.list (cs.map dC)), some (.int turn), none] = some (.list (cs.map dC)) := rfl
 obtain ⟨m1, e1, h1⟩ := slL_of dC (lo := gPart (gVar 3)) (hi := gNoPart) v2 (part_of rfl) rfl
 obtain ⟨m2, e2, h2⟩ := slL_of dC (lo := gNoPart) (hi := gPart (gVar 3)) v2 rfl (part_of rfl)
 obtain ⟨m3, e3, h3⟩ := slL_of dC (lo := gNoPart) (hi := gPart (g2 dMod (gVar 3) (gC (.int 3)))) v2 rfl (part_of (g2_of rfl rfl (d_mod (by decide))))
 have e4 := cat_of (lst_of (cat_of e1 e2 (by simp only [List.length_map]; lia))) e3 (by simp only [List.length_append, List.length_map]; lia)
 rw [<- List.map_append, <- List.map_append] at e4
 obtain ⟨c1, ec1⟩ : ∃ c1, c1 = m1 ++ m2 ++ m3 := ⟨_, rfl⟩
 have hc1 : c1.length <= 3000 := by rw [ec1, List.length_append, List.length_append]; lia
 rw [<- ec1] at e4
 refine seq_st [S, some (.int way), some (.list (c1.map dC)), some (.int turn), none] (setN_of e4) ?_
 obtain ⟨c2, hc2, e5⟩ : ∃ c2 : List (Int × Int), c2.length <= 3000 /\ gIf (gB (g2 dEq (g2 dMod (g2 dDiv (gCall G_law_cell 2 (gConsA (gVar 0) (gConsA (gC (.int (1))) gNilA))) (gC (.int (500)))) (gC (.int (6)))) (gC (.int (1))))) (gSetN 2 (gCompL (gItems (gVar 2)) 1 [] (gName' 0) (gB (g2 dNe (gVar 0) (gTupD (gConsA (gC (.int (0))) (gConsA (gC (.int (0))) gNilA))))) (gVar 0))) gSkip [S, some (.int way), some (.list (c1.map dC)), some (.int turn), none] = some (.nx [S, some (.int way), some (.list (c2.map dC)), some (.int turn), none]) := by
  have hb : gB (g2 dEq (g2 dMod (g2 dDiv (gCall G_law_cell 2 (gConsA (gVar 0) (gConsA (gC (.int (1))) gNilA))) (gC (.int (500)))) (gC (.int (6)))) (gC (.int (1)))) [S, some (.int way), some (.list (c1.map dC)), some (.int turn), none] = some (decide (ns.getD 1 0 / 500 % 6 = 1)) := gB_of (g2_of (g2_of (g2_of (cell 1 _) rfl (dd 500 (by decide) (by decide))) rfl (d_mod (by decide))) rfl rfl)
  cases q : decide (ns.getD 1 0 / 500 % 6 = 1) with
  | true =>
    have e6 := compL_of (gi := gItems (gVar 2)) (ix := []) (gc := gB (g2 dNe (gVar 0) (gTupD (gConsA (gC (.int (0))) (gConsA (gC (.int (0))) gNilA))))) (ge := gVar 0) (δ := [S, some (.int way), some (.list (c1.map dC)), some (.int turn), none]) dC dC (fun c => c) (fun c => !decide (c = ((0 : Int), (0 : Int)))) c1 rfl (by lia) (fun c _ => gB_of (g2_of rfl rfl (ne_dC c (0, 0)))) fun _ _ _ => rfl
    refine ⟨_, ?_, st_if true (hb.trans (by rw [q])) (fun _ => setN_of e6) fun z => nomatch z⟩
    rw [List.length_map]
    exact Nat.le_trans (List.length_filter_le _ _) hc1
  | false => exact ⟨c1, hc1, st_no (hb.trans (by rw [q]))⟩
 refine seq_st _ e5 ?_
 refine seq_st [S, some (.int way), some (.list (c2.map dC)), some (.int turn), some (.list (c2.map dC))] rfl ?_
 have hd := noL_due c2
 refine seq_no (or_of (not_of' (gTru_of (b := true) (call_of (cons_of (call_of (cons_of rfl rfl) rfl (v_law_made (by lia))) (cons_of (callSh_of (cons_of rfl rfl) rfl (v_law_due c2) hd) rfl)) rfl (v_law_like c2)))) (gB_of (g2_of rfl rfl (ne_cs c2)))) ?_
 refine seq_st [S, some (.int way), some (.list (c2.reverse.map dC)), some (.int turn), some (.list (c2.map dC))] (by rw [List.map_reverse]; rfl) ?_
 refine ret (.bool true) ?_ (.mk rfl rfl)
 exact call_of (cons_of (callSh_of (cons_of rfl rfl) rfl (v_law_made (by rw [List.length_reverse]; lia)) (noL_due _)) (cons_of (callSh_of (cons_of rfl rfl) rfl (v_law_due _) (noL_due _)) rfl)) rfl (v_law_like _)
end MyLaw
namespace MyLaw
open PySem L2 Q1
noncomputable def top (i : Nat) : Stmt := PySem.Challenge.pw_lotdraw_k09_plans_from_counts.main.body.getD i (.Pass ⟨0, 0, 0, 0⟩)
noncomputable abbrev s_plan_from : Stmt := top 19
theorem sc_plan_from : FnScope ["counts", "wanted", "count"] ["counts"] (defScope s_plan_from) := ⟨rfl, rfl, rfl, by decide +kernel, rfl, by decide +kernel, by decide +kernel⟩
noncomputable abbrev s_plan_while : Stmt := top 20
theorem sc_plan_while : FnScope ["draws_on", "places", "there", "draws", "place"] ["draws_on"] (defScope s_plan_while) := ⟨rfl, rfl, rfl, by decide +kernel, rfl, by decide +kernel, by decide +kernel⟩
noncomputable abbrev s_led_to : Stmt := top 21
theorem sc_led_to : FnScope ["place"] ["place"] (defScope s_led_to) := ⟨rfl, rfl, rfl, by decide +kernel, rfl, by decide +kernel, by decide +kernel⟩
noncomputable abbrev s_law_cell : Stmt := top 23
theorem sc_law_cell : FnScope ["_law_script", "_law_k"] ["_law_script", "_law_k"] (defScope s_law_cell) := ⟨rfl, rfl, rfl, by decide +kernel, rfl, by decide +kernel, by decide +kernel⟩
noncomputable abbrev s_law_digits : Stmt := top 24
theorem sc_law_digits : FnScope ["_law_cell_here", "_law_base", "_law_many", "_law_row", "_law_k"] ["_law_cell_here", "_law_base", "_law_many"] (defScope s_law_digits) := ⟨rfl, rfl, rfl, by decide +kernel, rfl, by decide +kernel, by decide +kernel⟩
noncomputable abbrev s_law_mixes : Stmt := top 25
theorem sc_law_mixes : FnScope ["_law_cell_here", "_law_base", "_law_many", "_law_row", "_law_k", "_law_number"] ["_law_cell_here", "_law_base", "_law_many"] (defScope s_law_mixes) := ⟨rfl, rfl, rfl, by decide +kernel, rfl, by decide +kernel, by decide +kernel⟩
noncomputable abbrev s_law_plan : Stmt := top 26
theorem sc_law_plan : FnScope ["_law_cell_here", "_law_most_here", "_law_rest", "_law_many", "_law_digits_here", "_law_rows", "_law_come", "_law_at", "_law_row"] ["_law_cell_here", "_law_most_here"] (defScope s_law_plan) := ⟨rfl, rfl, rfl, by decide +kernel, rfl, by decide +kernel, by decide +kernel⟩
noncomputable abbrev s_law_most : Stmt := top 27
theorem sc_law_most : FnScope ["_law_cell_here"] ["_law_cell_here"] (defScope s_law_most) := ⟨rfl, rfl, rfl, by decide +kernel, rfl, by decide +kernel, by decide +kernel⟩
noncomputable abbrev s_law_whole : Stmt := top 28
theorem sc_law_whole : FnScope ["_law_thing"] ["_law_thing"] (defScope s_law_whole) := ⟨rfl, rfl, rfl, by decide +kernel, rfl, by decide +kernel, by decide +kernel⟩
noncomputable abbrev s_law_due : Stmt := top 29
theorem sc_law_due : FnScope ["_law_counts_here", "_law_known", "_law_rows", "_law_draws", "_law_row", "_law_bad"] ["_law_counts_here"] (defScope s_law_due) := ⟨rfl, rfl, rfl, by decide +kernel, rfl, by decide +kernel, by decide +kernel⟩
noncomputable abbrev s_law_word : Stmt := top 30
theorem sc_law_word : FnScope ["_law_e", "_law_named", "_law_words", "_law_some"] ["_law_e"] (defScope s_law_word) := ⟨rfl, rfl, rfl, by decide +kernel, rfl, by decide +kernel, by decide +kernel⟩
noncomputable abbrev s_law_made : Stmt := top 31
theorem sc_law_made : FnScope ["_law_counts_here", "_law_found", "_law_e"] ["_law_counts_here"] (defScope s_law_made) := ⟨rfl, rfl, rfl, by decide +kernel, rfl, by decide +kernel, by decide +kernel⟩
noncomputable abbrev s_law_like : Stmt := top 32
theorem sc_law_like : FnScope ["_law_found", "_law_due_here", "_law_row"] ["_law_found", "_law_due_here"] (defScope s_law_like) := ⟨rfl, rfl, rfl, by decide +kernel, rfl, by decide +kernel, by decide +kernel⟩
noncomputable abbrev s_law_counts : Stmt := top 33
theorem sc_law_counts : FnScope ["_law_script", "_law_way", "_law_cell_here", "_law_digits_here", "_law_low", "_law_plan_here", "_law_counts_here", "_law_draws", "_law_row"] ["_law_script", "_law_way"] (defScope s_law_counts) := ⟨rfl, rfl, rfl, by decide +kernel, rfl, by decide +kernel, by decide +kernel⟩
noncomputable abbrev s_law : Stmt := top 34
theorem sc_law : FnScope ["_law_script", "_law_way", "_law_counts_here", "_law_turn", "_law_handed"] ["_law_script"] (defScope s_law) := ⟨rfl, rfl, rfl, by decide +kernel, rfl, by decide +kernel, by decide +kernel⟩
section
variable {P : Program} {w : World} {K : PySem.W.Frag} {mg : Str -> Option Value} {base : Heap}
theorem ok_led_to (F : Df K mg "led_to" s_led_to ["place"]) (B : Bs mg) : Dn P w K mg base 1 "led_to" ["place"] (spN K 1 G_led_to) :=
 pd_defN [] g_led_to F sc_led_to fun f cdv A outer s H E hr => (pd_one (pd_retN (pd_sortSet B.sorted B.set (PE.sh (PE.nE (pd_opN op_catR imp_cat (PE.sh (PE.nE (pd_callTyN call_list_of imp_list rfl B.list bt_list (pd_shcons (pd_own (pv 0)) pd_shnil)))) (PE.sh (PE.nE (PE.asC (pd_compL (defScope s_led_to) ["place"] [] ["bad"] ["bad"] own1 (PI.c (pd_iseq (pd_var (pv 0)))) (fun _ _ _ _ _ _ => (pd_gname (pg_name (i := 0) (show (["bad"] : List Str).Nodup from by decide +kernel) rfl (Or.inl rfl)))) (fun _ _ _ _ _ _ => pd_fnil) (fun _ _ _ _ _ _ => (pd_op op_addV imp_addV (pd_own (pv 0)) (PE.sh (pd_int pe_int))))))))))))))
theorem okR_plan_while (F : Df K mg "plan_while" s_plan_while ["draws_on"]) (B : Bs mg) (C_MOST_PLACES : Cn mg "MOST_PLACES" (.int (24))) {f : Addr} {c : Ca} {q : Str} {G : List D -> Option D} (C : Clo P w K mg base 2 f c q 2 G) (X_TooLong : ∃ C tl, ExC K mg "TooLong" C VE tl "ValueError.__new__") (D_led_to : Dn P w K mg base 1 "led_to" ["place"] (spN K 1 G_led_to)) : DnR P w K mg base 4 "plan_while" ["draws_on"] (spR K mg 1 (R_plan_while f c q G)) := by
 obtain ⟨_, _, X_TooLong⟩ := X_TooLong; exact pd_defR [1] (r_plan_while f c q G) F sc_plan_while fun _ _ _ _ _ _ _ hr => (pd_seq (pd_setN (ps_set (i := 1) sc_plan_while.nd rfl (Or.inl rfl) (pd_lst pd_anil)))
  (pd_seq (pd_set (ps_set (i := 2) sc_plan_while.nd rfl (Or.inl rfl) (PE.nE (pd_lst (pd_acons (pd_int pe_int) pd_anil)))))
  (pd_one (pd_while PassesOwn.leaving (pd_truth (PE.sh (pd_bl pe_bl))) (pd_seq (pd_set (ps_set (i := 3) sc_plan_while.nd rfl (Or.inr rfl) (pd_callB call_lenU imp_len rfl B.len bt_len (pd_shcons (pd_own (pv 1)) pd_shnil))))
  (pd_seq (pd_set (PS.nE (pd_setCL (i := 4) (defScope s_plan_while) ["draws_on", "places", "there", "draws", "place"] [0, 3] ["bad", "draws_on", "draws"] ["bad"] sc_plan_while.nd rfl rfl own1 (PI.c (pd_iseq (pd_var (pv 2)))) (fun _ _ _ _ _ _ => (pd_gname (pg_name (i := 0) (show (["bad", "draws_on", "draws"] : List Str).Nodup from by decide +kernel) rfl (Or.inl rfl)))) (fun _ _ _ _ _ _ => (pf_one (pd_truth (PE.sh (pd_callV (i := 1) C hr (by decide) (pd_acons (pd_var (pv 0)) (pd_acons (pd_var (pv 2)) pd_anil))))))) (fun _ _ _ _ _ _ => (pd_var (pv 0))))))
  (pd_seq (pd_if (pd_tcmp (op_eqH hr) imp_eq (PE.sh (pd_callB call_lenU imp_len rfl B.len bt_len (pd_shcons (pd_own (pv 4)) pd_shnil))) (PE.sh (pd_int pe_int)) (nomark _)) (pd_one (pd_ret (pd_callTy call_tuple_of imp_tuple rfl B.tuple bt_tuple (pd_shcons (pd_own (pv 1)) pd_shnil)))) pd_nil)
  (pd_seq (pd_if (pd_tcmp (op_eqH hr) imp_eq (pd_own (pv 3)) (PE.sh (pd_int (pe_cn C_MOST_PLACES))) (nomark _)) (pd_one (pd_raise X_TooLong PySem.F.excBase_ValueError (by decide) PySem.F.excBase_ValueError pe_str)) pd_nil)
  (pd_seq (pd_append (ps_expr (pe_bm PySem.F.plainAttrs_list PySem.F.slot_list_append PySem.F.type_list_append mt_append (pv 1) (pa_cons (pd_callTy call_tuple_of imp_tuple rfl B.tuple bt_tuple (pd_shcons (pd_own (pv 4)) pd_shnil)) pa_nil))))
  (pd_one (pd_set (ps_set (i := 2) sc_plan_while.nd rfl (Or.inl rfl) (PE.nE (pd_callN D_led_to hr (by decide) (pd_acons (pd_var (pv 4)) pd_anil)))))))))))))))
theorem okR_plan_from {c0 P0 : Addr} (F : DfC K mg "plan_from" s_plan_from ["counts"] c0) (B : Bs mg) (HD : PySem.W.codeHdIn K c0 P0 = true) (ML : (P0, (⟨42, 22, 42, 69⟩ : Pos), ("plan_from.<locals>.<lambda>" : Str)) ∈ lamTab) (BB : BAt mg base) (DC_plan_while : DnCR P w K mg 4 2 2 "plan_while" "draws_on" R_plan_while) (X_NoPlan : ∃ C tl, ExC K mg "NoPlan" C VE tl "ValueError.__new__") : DnR P w K mg base 5 "plan_from" ["counts"] (spR K mg 1 R_plan_from) := by
 obtain ⟨_, _, X_NoPlan⟩ := X_NoPlan; exact pd_defRC [1] r_plan_from F sc_plan_from fun f A outer s H E hr => let hu := Nat.lt_of_le_of_lt (Nat.add_le_add_left (show 1 <= 64 by decide) _) hr.units
  (pd_seq (pd_setD (ps_set (i := 1) sc_plan_from.nd rfl (Or.inr rfl) pd_dnew))
  (pd_seq (pd_for PassesOwn.leaving rfl (pd_iseq (pd_var (pv 0))) (pd_gname (pg_name (i := 2) sc_plan_from.nd rfl (Or.inl rfl)))
   (pd_one (pd_setK (ps_dput hu (pv 1) (pd_own (pv 2)) (pd_bl pe_bl) (by rfl)))))
  (pd_seq (pd_if (pd_tdnotin hu (PE.sh (pd_tup (pd_acons (pd_int pe_int) (pd_acons (pd_int pe_int) pd_anil)))) (pd_own (pv 1))) (pd_one (pd_raise X_NoPlan PySem.F.excBase_ValueError (by decide) PySem.F.excBase_ValueError pe_str)) pd_nil)
  (pd_one (pd_retPWR (kc := 1) (ps := ["bad", "draws"]) (y := "wanted") (i := 1) (defScope s_plan_from) DC_plan_while hr (by decide) pass_r BB HD ML ⟨rfl, rfl, rfl, by decide +kernel, by decide +kernel, by decide +kernel, by decide +kernel⟩ (fun base f c' cl A outer s H E hr => let hu := Nat.lt_of_le_of_lt (Nat.add_le_add_left (show 1 <= 64 by decide) _) hr.units
  (pd_dinF hu (PE.sh (pd_tup (pd_acons (pd_var (pv 0)) (pd_acons (pd_op op_sub imp_I (pd_own (pv 1)) (pd_own (pv 0))) pd_anil)))) (pd_own (pv 2)))) (fun _ _ _ _ _ _ us hl => by obtain ⟨_, _, rfl⟩ := two_of us hl; rfl))))))
theorem ok_law_cell (F : Df K mg "_law_cell" s_law_cell ["_law_script", "_law_k"]) (B : Bs mg) : Dn P w K mg base 1 "_law_cell" ["_law_script", "_law_k"] (spD K 2 G_law_cell) :=
 pd_def [] g_law_cell F sc_law_cell fun f cdv A outer s H E hr => (pd_seq (pd_if (pd_tcmp op_lt imp_Ib (pd_own (pv 1)) (PE.sh (pd_callB call_lenU imp_len rfl B.len bt_len (pd_shcons (pd_own (pv 0)) pd_shnil))) (nomark _)) (pd_one (pd_ret (pd_ix (pd_own (pv 0)) (pd_own (pv 1))))) pd_nil)
  (pd_one (pd_ret (pd_int pe_int))))
theorem ok_law_digits (F : Df K mg "_law_digits" s_law_digits ["_law_cell_here", "_law_base", "_law_many"]) (B : Bs mg) : Dn P w K mg base 1 "_law_digits" ["_law_cell_here", "_law_base", "_law_many"] (spN K 3 G_law_digits) :=
 pd_defN [3] g_law_digits F sc_law_digits fun f cdv A outer s H E hr => (pd_seq (pd_setN (ps_set (i := 3) sc_law_digits.nd rfl (Or.inl rfl) (pd_lst pd_anil)))
  (pd_seq (pd_for PassesOwn.never rfl (pd_range1 B.range (pd_acons (pd_var (pv 2)) pd_anil)) (pd_gname (pg_name (i := 4) sc_law_digits.nd rfl (Or.inl rfl)))
   (pd_seq (pd_append (ps_expr (pe_bm PySem.F.plainAttrs_list PySem.F.slot_list_append PySem.F.type_list_append mt_append (pv 3) (pa_cons (pd_op op_modN imp_Ic (pd_own (pv 0)) (pd_own (pv 1))) pa_nil))))
  (pd_one (pd_set (ps_set (i := 0) sc_law_digits.nd rfl (Or.inl rfl) (pd_op op_fdivS imp_Ic (pd_own (pv 0)) (pd_own (pv 1))))))))
  (pd_one (pd_retOwn (pv 3)))))
theorem ok_law_mixes (F : Df K mg "_law_mixes" s_law_mixes ["_law_cell_here", "_law_base", "_law_many"]) (B : Bs mg) : Dn P w K mg base 1 "_law_mixes" ["_law_cell_here", "_law_base", "_law_many"] (spN K 3 G_law_mixes) :=
 pd_defN [3] g_law_mixes F sc_law_mixes fun f cdv A outer s H E hr => (pd_seq (pd_setN (ps_set (i := 3) sc_law_mixes.nd rfl (Or.inl rfl) (pd_lst pd_anil)))
  (pd_seq (pd_for PassesOwn.never rfl (pd_range1 B.range (pd_acons (pd_var (pv 2)) pd_anil)) (pd_gname (pg_name (i := 4) sc_law_mixes.nd rfl (Or.inl rfl)))
   (pd_seq (pd_set (ps_set (i := 5) sc_law_mixes.nd rfl (Or.inl rfl) (pd_op op_modN imp_Ic (PE.sh (pd_op op_addV imp_addV (PE.sh (pd_op op_addV imp_addV (PE.sh (pd_op op_mulB imp_Ic (PE.sh (pd_op op_modN imp_Ic (pd_own (pv 0)) (PE.sh (pd_int pe_int)))) (PE.sh (pd_int pe_int)))) (PE.sh (pd_op op_mulB imp_Ic (PE.sh (pd_op op_mulB imp_Ic (pd_own (pv 4)) (pd_own (pv 4)))) (PE.sh (pd_int pe_int)))))) (PE.sh (pd_op op_mulB imp_Ic (pd_own (pv 4)) (PE.sh (pd_int pe_int)))))) (PE.sh (pd_int pe_int)))))
  (pd_one (pd_append (ps_expr (pe_bm PySem.F.plainAttrs_list PySem.F.slot_list_append PySem.F.type_list_append mt_append (pv 3) (pa_cons (pd_op op_modN imp_Ic (PE.sh (pd_op op_fdivS imp_Ic (PE.sh (pd_op op_modN imp_Ic (PE.sh (pd_op op_addV imp_addV (PE.sh (pd_op op_mulB imp_Ic (pd_own (pv 5)) (PE.sh (pd_int pe_int)))) (pd_own (pv 0)))) (PE.sh (pd_int pe_int)))) (PE.sh (pd_int pe_int)))) (pd_own (pv 1))) pa_nil)))))))
  (pd_one (pd_retOwn (pv 3)))))
theorem ok_law_plan (F : Df K mg "_law_plan" s_law_plan ["_law_cell_here", "_law_most_here"]) (B : Bs mg) (D_law_digits : Dn P w K mg base 1 "_law_digits" ["_law_cell_here", "_law_base", "_law_many"] (spN K 3 G_law_digits)) (D_law_mixes : Dn P w K mg base 1 "_law_mixes" ["_law_cell_here", "_law_base", "_law_many"] (spN K 3 G_law_mixes)) : Dn P w K mg base 2 "_law_plan" ["_law_cell_here", "_law_most_here"] (spD K 2 G_law_plan) :=
 pd_def [5] g_law_plan F sc_law_plan fun f cdv A outer s H E hr => (pd_seq (pd_set (ps_set (i := 2) sc_law_plan.nd rfl (Or.inl rfl) (pd_op op_fdivS imp_Ic (pd_own (pv 0)) (PE.sh (pd_int pe_int)))))
  (pd_seq (pd_set (ps_set (i := 3) sc_law_plan.nd rfl (Or.inr rfl) (pd_op op_addV imp_addV (PE.sh (pd_int pe_int)) (PE.sh (pd_op op_mulB imp_Ic (PE.sh (pd_int pe_int)) (PE.sh (pd_callTy call_int1 imp_int rfl B.int bt_int (pd_shcons (PE.sh (pd_cmp op_gt imp_Ib (pd_own (pv 1)) (PE.sh (pd_int pe_int)) (nomark _))) pd_shnil))))))))
  (pd_seq (pd_set (ps_set (i := 4) sc_law_plan.nd rfl (Or.inr rfl) (PE.nE (pd_callN D_law_mixes hr (by decide) (pd_acons (pd_var (pv 2)) (pd_acons (pd_int pe_int) (pd_acons (pd_var (pv 3)) pd_anil)))))))
  (pd_seq (pd_if (pd_tcmp op_ge imp_Ib (PE.sh (pd_callB call_abs imp_abs rfl B.abs bt_abs (pd_shcons (pd_own (pv 0)) pd_shnil))) (PE.sh (pd_op op_pow imp_Ic (PE.sh (pd_int pe_int)) (PE.sh (pd_int pe_int)))) (nomark _)) (pd_one (pd_set (ps_set (i := 4) sc_law_plan.nd rfl (Or.inr rfl) (PE.nE (pd_callN D_law_digits hr (by decide) (pd_acons (pd_var (pv 2)) (pd_acons (pd_int pe_int) (pd_acons (pd_var (pv 3)) pd_anil)))))))) pd_nil)
  (pd_seq (pd_setN (ps_set (i := 5) sc_law_plan.nd rfl (Or.inl rfl) (pd_lst (pd_acons (pd_tup (pd_acons (pd_int pe_int) pd_anil)) pd_anil))))
  (pd_seq (pd_set (ps_set (i := 6) sc_law_plan.nd rfl (Or.inl rfl) (PE.nE (pd_lst (pd_acons (pd_int pe_int) (pd_acons (pd_int pe_int) pd_anil))))))
  (pd_seq (pd_set (ps_set (i := 7) sc_law_plan.nd rfl (Or.inr rfl) (pd_int pe_int)))
  (pd_seq (pd_while PassesOwn.never (PW.pt (pd_tand (pd_tcmp op_lt imp_Ib (PE.sh (pd_callB call_lenU imp_len rfl B.len bt_len (pd_shcons (pd_own (pv 5)) pd_shnil))) (pd_own (pv 1)) (nomark _)) (pw_and1 (pd_tcmp op_gt imp_Ib (PE.sh (pd_callB call_lenU imp_len rfl B.len bt_len (pd_shcons (pd_own (pv 6)) pd_shnil))) (PE.sh (pd_int pe_int)) (nomark _))))) (pd_seq (pd_set (PS.nE (pd_setCL (i := 8) (defScope s_law_plan) ["_law_cell_here", "_law_most_here", "_law_rest", "_law_many", "_law_digits_here", "_law_rows", "_law_come", "_law_at", "_law_row"] [4, 3, 7] ["_law_k", "_law_bad", "_law_digits_here", "_law_many", "_law_at"] ["_law_k", "_law_bad"] sc_law_plan.nd rfl rfl own2 (PI.c (pd_enumerate B.enumerate (pd_var (pv 6)))) (fun _ _ _ _ _ _ => (pd_gtup rfl (pd_gcons (pd_gname (pg_name (i := 0) (show (["_law_k", "_law_bad", "_law_digits_here", "_law_many", "_law_at"] : List Str).Nodup from by decide +kernel) rfl (Or.inl rfl))) (pd_gcons (pd_gname (pg_name (i := 1) (show (["_law_k", "_law_bad", "_law_digits_here", "_law_many", "_law_at"] : List Str).Nodup from by decide +kernel) rfl (Or.inl rfl))) pd_gnil)))) (fun _ _ _ _ _ _ => (pf_one (pd_tcmp op_gt imp_Ib (PE.sh (pd_ix (pd_own (pv 2)) (PE.sh (pd_op op_modN imp_Ic (PE.sh (pd_op op_addV imp_addV (pd_own (pv 4)) (pd_own (pv 0)))) (pd_own (pv 3)))))) (PE.sh (pd_int pe_int)) (nomark _)))) (fun _ _ _ _ _ _ => (pd_var (pv 1))))))
  (pd_seq (pd_set (ps_set (i := 7) sc_law_plan.nd rfl (Or.inr rfl) (pd_op op_addV imp_addV (pd_own (pv 7)) (PE.sh (pd_callB call_lenU imp_len rfl B.len bt_len (pd_shcons (pd_own (pv 6)) pd_shnil))))))
  (pd_seq (pd_if (pd_tcmp op_gt imp_Ib (PE.sh (pd_op op_modN imp_Ic (pd_own (pv 0)) (PE.sh (pd_int pe_int)))) (PE.sh (pd_int pe_int)) (nomark _)) (pd_one (pd_set (ps_set (i := 8) sc_law_plan.nd rfl (Or.inl rfl) (PE.nE (pd_slL (pd_own (pv 6)) (pd_psome (PE.sh (pd_ix (pd_own (pv 4)) (PE.sh (pd_op op_modN imp_Ic (pd_own (pv 7)) (pd_own (pv 3))))))) (pd_psome (PE.sh (pd_callB (call_max2 rfl) imp_max rfl B.max bt_max (pd_shcons (PE.sh (pd_int pe_int)) (pd_shcons (PE.sh (pd_op op_sub imp_I (PE.sh (pd_callB call_lenU imp_len rfl B.len bt_len (pd_shcons (pd_own (pv 6)) pd_shnil))) (PE.sh (pd_ix (pd_own (pv 4)) (PE.sh (pd_op op_modN imp_Ic (PE.sh (pd_op op_addV imp_addV (pd_own (pv 7)) (PE.sh (pd_int pe_int)))) (pd_own (pv 3)))))))) pd_shnil)))))))))) pd_nil)
  (pd_seq (pd_set (ps_set (i := 6) sc_law_plan.nd rfl (Or.inl rfl) (PE.nE (pd_sortSet B.sorted B.set (PE.sh (PE.nE (pd_opN op_catR imp_cat (pd_own (pv 8)) (PE.sh (PE.nE (PE.asC (pd_compL (defScope s_law_plan) ["_law_cell_here", "_law_most_here", "_law_rest", "_law_many", "_law_digits_here", "_law_rows", "_law_come", "_law_at", "_law_row"] [] ["_law_bad"] ["_law_bad"] own1 (PI.c (pd_iseq (pd_var (pv 8)))) (fun _ _ _ _ _ _ => (pd_gname (pg_name (i := 0) (show (["_law_bad"] : List Str).Nodup from by decide +kernel) rfl (Or.inl rfl)))) (fun _ _ _ _ _ _ => pd_fnil) (fun _ _ _ _ _ _ => (pd_op op_addV imp_addV (pd_own (pv 0)) (PE.sh (pd_int pe_int)))))))))))))))
  (pd_one (pd_if (pd_tcmp op_gt imp_Ib (PE.sh (pd_callB call_lenU imp_len rfl B.len bt_len (pd_shcons (pd_own (pv 8)) pd_shnil))) (PE.sh (pd_int pe_int)) (nomark _)) (pd_one (pd_append (ps_expr (pe_bm PySem.F.plainAttrs_list PySem.F.slot_list_append PySem.F.type_list_append mt_append (pv 5) (pa_cons (pd_callTy call_tuple_of imp_tuple rfl B.tuple bt_tuple (pd_shcons (pd_own (pv 8)) pd_shnil)) pa_nil))))) pd_nil)))))))
  (pd_one (pd_ret (pd_callTy call_tuple_of imp_tuple rfl B.tuple bt_tuple (pd_shcons (pd_own (pv 5)) pd_shnil))))))))))))
theorem ok_law_most (F : Df K mg "_law_most" s_law_most ["_law_cell_here"]) (B : Bs mg) : Dn P w K mg base 1 "_law_most" ["_law_cell_here"] (spD K 1 G_law_most) :=
 pd_def [] g_law_most F sc_law_most fun f cdv A outer s H E hr => (pd_seq (pd_if (pd_tcmp (op_eqH hr) imp_eq (PE.sh (pd_op op_modN imp_Ic (PE.sh (pd_op op_fdivS imp_Ic (pd_own (pv 0)) (PE.sh (pd_int pe_int)))) (PE.sh (pd_int pe_int)))) (PE.sh (pd_int pe_int)) (nomark _)) (pd_one (pd_ret (pd_op op_addV imp_addV (PE.sh (pd_int pe_int)) (PE.sh (pd_op op_modN imp_Ic (PE.sh (pd_op op_fdivS imp_Ic (pd_own (pv 0)) (PE.sh (pd_int pe_int)))) (PE.sh (pd_int pe_int))))))) pd_nil)
  (pd_one (pd_ret (pd_op op_addV imp_addV (PE.sh (pd_int pe_int)) (PE.sh (pd_op op_modN imp_Ic (pd_own (pv 0)) (PE.sh (pd_int pe_int))))))))
theorem ok_law_whole (F : Df K mg "_law_whole" s_law_whole ["_law_thing"]) (B : Bs mg) : Dn P w K mg base 1 "_law_whole" ["_law_thing"] (spD K 1 G_law_whole) :=
 pd_def [] g_law_whole F sc_law_whole fun f cdv A outer s H E hr => (pd_one (pd_ret (pd_and (pd_isi "int" B.isinstance (pd_own (pv 0)) (pe_bltn rfl B.int bt_int (v := .ty "int") rfl)) (pe_one (pd_not (PE.sh (pd_isi "bool" B.isinstance (pd_own (pv 0)) (pe_bltn rfl B.bool bt_bool (v := .ty "bool") rfl))))))))
theorem ok_law_due (F : Df K mg "_law_due" s_law_due ["_law_counts_here"]) (B : Bs mg) : Dn P w K mg base 1 "_law_due" ["_law_counts_here"] (spD K 1 G_law_due) :=
 pd_def [1, 2, 4] g_law_due F sc_law_due fun f cdv A outer s H E hr => let hu := Nat.lt_of_le_of_lt (Nat.add_le_add_left (show 1 <= 64 by decide) _) hr.units
  (pd_seq (pd_if (pd_tcmp (op_notInD hr) imp_inD (PE.sh (pd_tup (pd_acons (pd_int pe_int) (pd_acons (pd_int pe_int) pd_anil)))) (pd_own (pv 0)) (by with_unfolding_all rfl)) (pd_one (pd_ret (pd_str pe_str))) pd_nil)
  (pd_seq (pd_setD (ps_set (i := 1) sc_law_due.nd rfl (Or.inl rfl) (pd_disp1 hu (PE.sh (pd_tup (pd_acons (pd_int pe_int) (pd_acons (pd_int pe_int) pd_anil)))) (pd_bl pe_bl))))
  (pd_seq (pd_setN (ps_set (i := 2) sc_law_due.nd rfl (Or.inl rfl) (pd_lst pd_anil)))
  (pd_seq (pd_for PassesOwn.never rfl (pd_range1 B.range (pd_acons (pd_int pe_int) pd_anil)) (pd_gname (pg_name (i := 3) sc_law_due.nd rfl (Or.inl rfl)))
   (pd_seq (pd_setN (ps_set (i := 4) sc_law_due.nd rfl (Or.inl rfl) (pd_lst pd_anil)))
  (pd_seq (pd_for PassesOwn.never rfl (pd_range1 B.range (pd_acons (pd_op op_addV imp_addV (pd_own (pv 3)) (PE.sh (pd_int pe_int))) pd_anil)) (pd_gname (pg_name (i := 5) sc_law_due.nd rfl (Or.inl rfl)))
   (pd_one (pd_if (PW.pt (pd_tand (pd_tdin hu (PE.sh (pd_tup (pd_acons (pd_var (pv 5)) (pd_acons (pd_op op_sub imp_I (pd_own (pv 3)) (pd_own (pv 5))) pd_anil)))) (pd_own (pv 1))) (pw_and1 (pd_tcmp (op_inD hr) imp_inD (PE.sh (pd_tup (pd_acons (pd_var (pv 5)) (pd_acons (pd_op op_sub imp_I (pd_own (pv 3)) (pd_own (pv 5))) pd_anil)))) (pd_own (pv 0)) (by with_unfolding_all rfl))))) (pd_seq (pd_append (ps_expr (pe_bm PySem.F.plainAttrs_list PySem.F.slot_list_append PySem.F.type_list_append mt_append (pv 4) (pa_cons (pd_var (pv 5)) pa_nil))))
  (pd_seq (pd_setK (ps_dput hu (pv 1) (PE.sh (pd_tup (pd_acons (pd_op op_addV imp_addV (pd_own (pv 5)) (PE.sh (pd_int pe_int))) (pd_acons (pd_op op_sub imp_I (pd_own (pv 3)) (pd_own (pv 5))) pd_anil)))) (pd_bl pe_bl) (by rfl)))
  (pd_one (pd_setK (ps_dput hu (pv 1) (PE.sh (pd_tup (pd_acons (pd_var (pv 5)) (pd_acons (pd_op op_addV imp_addV (PE.sh (pd_op op_sub imp_I (pd_own (pv 3)) (pd_own (pv 5)))) (PE.sh (pd_int pe_int))) pd_anil)))) (pd_bl pe_bl) (by rfl)))))) pd_nil)))
  (pd_seq (pd_if (pd_tcmp (op_eqH hr) imp_eq (pd_own (pv 4)) (PE.sh (PE.nE (pd_lst pd_anil))) (nomark _)) (pd_one (pd_ret (pd_callTy call_tuple_of imp_tuple rfl B.tuple bt_tuple (pd_shcons (pd_own (pv 2)) pd_shnil)))) pd_nil)
  (pd_seq (pd_if (pd_tcmp (op_eqH hr) imp_eq (pd_own (pv 3)) (PE.sh (pd_int pe_int)) (nomark _)) (pd_one (pd_ret (pd_str pe_str))) pd_nil)
  (pd_one (pd_append (ps_expr (pe_bm PySem.F.plainAttrs_list PySem.F.slot_list_append PySem.F.type_list_append mt_append (pv 2) (pa_cons (pd_callTy call_tuple_of imp_tuple rfl B.tuple bt_tuple (pd_shcons (pd_own (pv 4)) pd_shnil)) pa_nil))))))))))
  (pd_one (pd_ret (pd_callTy call_tuple_of imp_tuple rfl B.tuple bt_tuple (pd_shcons (pd_own (pv 2)) pd_shnil))))))))
theorem okW_law_word (F : Df K mg "_law_word" s_law_word ["_law_e"]) (B : Bs mg) (CT : ClTs K mg CSX TSX) (zVE : mg "ValueError" = none) (kVE : ClT K CSX "ValueError" (.type "ValueError")) : DnW P w K mg base 1 "_law_word" ["_law_e"] (fun y => spD K 1 (W_law_word y)) := by
 refine pd_defW [] w_law_word F sc_law_word fun y f cdv A outer s H hr hy => ?_
 refine pd_seq ?_ ?_
 ·exact (pd_set (ps_set (i := 1) sc_law_word.nd rfl (Or.inr rfl) (PE.nE (pd_lst (pd_acons (pd_isiC CSX TSX CT (.head _) B.isinstance (pd_own (pv 0))) (pd_acons (pd_isiC CSX TSX CT (.tail _ (.head _)) B.isinstance (pd_own (pv 0))) (pd_acons (pd_isiC CSX TSX CT (.tail _ (.tail _ (.head _))) B.isinstance (pd_own (pv 0))) (pd_acons (pd_isiC CSX TSX CT (.tail _ (.tail _ (.tail _ (.head _)))) B.isinstance (pd_own (pv 0))) pd_anil))))))))
 refine pd_seq ?_ ?_
 ·exact (pd_set (ps_set (i := 1) sc_law_word.nd rfl (Or.inr rfl) (PE.nE (pd_opN op_catR imp_cat (pd_own (pv 1)) (PE.sh (PE.nE (pd_lst (pd_acons (pd_isiC CSX TSX CT (.tail _ (.tail _ (.tail _ (.tail _ (.head _))))) B.isinstance (pd_own (pv 0))) (pd_acons (pd_isiC CSX TSX CT (.tail _ (.tail _ (.tail _ (.tail _ (.tail _ (.head _)))))) B.isinstance (pd_own (pv 0))) (pd_acons (pd_isiC CSX TSX CT (.tail _ (.tail _ (.tail _ (.tail _ (.tail _ (.tail _ (.head _))))))) B.isinstance (pd_own (pv 0))) (pd_acons (pd_isiC CSX TSX CT (.tail _ (.tail _ (.tail _ (.tail _ (.tail _ (.tail _ (.tail _ (.head _)))))))) B.isinstance (pd_own (pv 0))) pd_anil)))))))))))
 refine pd_seq ?_ ?_
 ·exact (pd_set (ps_set (i := 1) sc_law_word.nd rfl (Or.inr rfl) (PE.nE (pd_opN op_catR imp_cat (pd_own (pv 1)) (PE.sh (PE.nE (pd_lst (pd_acons (pd_isiC CSX TSX CT (.tail _ (.tail _ (.tail _ (.tail _ (.tail _ (.tail _ (.tail _ (.tail _ (.head _))))))))) B.isinstance (pd_own (pv 0))) (pd_acons (pd_isiC CSX TSX CT (.tail _ (.tail _ (.tail _ (.tail _ (.tail _ (.tail _ (.tail _ (.tail _ (.tail _ (.head _)))))))))) B.isinstance (pd_own (pv 0))) (pd_acons (pd_isiC CSX TSX CT (.tail _ (.tail _ (.tail _ (.tail _ (.tail _ (.tail _ (.tail _ (.tail _ (.tail _ (.tail _ (.head _))))))))))) B.isinstance (pd_own (pv 0))) (pd_acons (pd_isiC CSX TSX CT (.tail _ (.tail _ (.tail _ (.tail _ (.tail _ (.tail _ (.tail _ (.tail _ (.tail _ (.tail _ (.tail _ (.head _)))))))))))) B.isinstance (pd_own (pv 0))) pd_anil)))))))))))
 refine pd_seq ?_ ?_
 ·exact (pd_set (ps_set (i := 1) sc_law_word.nd rfl (Or.inr rfl) (PE.nE (pd_opN op_catR imp_cat (pd_own (pv 1)) (PE.sh (PE.nE (pd_lst (pd_acons (pd_isiC CSX TSX CT (.tail _ (.tail _ (.tail _ (.tail _ (.tail _ (.tail _ (.tail _ (.tail _ (.tail _ (.tail _ (.tail _ (.tail _ (.head _))))))))))))) B.isinstance (pd_own (pv 0))) (pd_acons (pd_isiC CSX TSX CT (.tail _ (.tail _ (.tail _ (.tail _ (.tail _ (.tail _ (.tail _ (.tail _ (.tail _ (.tail _ (.tail _ (.tail _ (.tail _ (.head _)))))))))))))) B.isinstance (pd_own (pv 0))) (pd_acons (pd_isiC CSX TSX CT (.tail _ (.tail _ (.tail _ (.tail _ (.tail _ (.tail _ (.tail _ (.tail _ (.tail _ (.tail _ (.tail _ (.tail _ (.tail _ (.tail _ (.head _))))))))))))))) B.isinstance (pd_own (pv 0))) pd_anil))))))))))
 refine pd_seq ?_ ?_
 ·refine pd_set ?_
  refine ps_set ?_ ?_ ?_ ?_ ?_ ?_
  ·exact sc_law_word.nd
  ·rfl
  ·exact (Or.inr rfl)
  ·refine PE.nE ?_
   refine pd_lst ?_
   exact pd_astrs rfl
  ·exact swap_list
  ·exact .inl rfl
 refine pd_seq ?_ ?_
 ·exact (pd_set (ps_set (i := 2) sc_law_word.nd rfl (Or.inr rfl) (PE.nE (pd_opN op_catR imp_cat (pd_own (pv 2)) (PE.sh (PE.nE (pd_lst (pd_astrs (by rfl)))))))))
 refine pd_seq ?_ ?_
 ·exact (pd_set (PS.nE (pd_setCLG (gd := hxG y) (i := 3) (defScope s_law_word) ["_law_e", "_law_named", "_law_words", "_law_some"] [2, 1] ["_law_k", "_law_words", "_law_named"] ["_law_k"] (fun _ _ _ _ _ _ => hy) sc_law_word.nd rfl rfl own1 (pd_range1X y 0 B.range (pd_acons (pd_int pe_int) pd_anil)) (fun _ _ _ _ _ _ => (pd_gname (pg_name (i := 0) (show (["_law_k", "_law_words", "_law_named"] : List Str).Nodup from by decide +kernel) rfl (Or.inl rfl)))) (fun _ _ _ _ _ _ => (pf_one (pd_truth (PE.sh (pd_ix (pd_own (pv 2)) (pd_own (pv 0))))))) (fun _ _ _ _ _ _ => (pd_ix (pd_own (pv 1)) (pd_own (pv 0)))))))
 refine pd_seq ?_ ?_
 ·exact (pd_if (PW.pt (pd_tor (pd_tcmp (op_neX hr) imp_ne (PE.sh (pd_callB call_lenU imp_len rfl B.len bt_len (pd_shcons (pd_own (pv 3)) pd_shnil))) (PE.sh (pd_int pe_int)) (nomark _)) (pw_or1 (pd_tnot (pd_truth (PE.sh (pd_isiX CSX B.isinstance (pd_own (pv 0)) (pe_bltn rfl zVE bt_VE (v := .ty "ValueError") rfl) (fun _ r => r) kVE))))))) (pd_one (pd_ret (pd_str pe_str))) pd_nil)
 exact pd_one (pd_ret (pd_ix (pd_own (pv 3)) (PE.sh (pd_int pe_int))))
theorem ok_law_made (F : Df K mg "_law_made" s_law_made ["_law_counts_here"]) (B : Bs mg) {cL : Addr} (mL : mg "LotError" = some (.ref cL)) (CE : ClEs K mg cL CSX) (DW_law_word : DnW P w K mg base 1 "_law_word" ["_law_e"] (fun y => spD K 1 (W_law_word y))) (DR_plan_from : DnR P w K mg base 5 "plan_from" ["counts"] (spR K mg 1 R_plan_from)) : Dn P w K mg base 6 "_law_made" ["_law_counts_here"] (spD K 1 G_law_made) :=
 pd_def [] g_law_made F sc_law_made fun f cdv A outer s H E hr => (pd_seq (pd_try (i := 2) (gs := x_law_made) (hand := handOf CSX (fun c => .str c)) (fun pins0 E => (pd_one (pd_setR (ps_set (i := 1) sc_law_made.nd rfl (Or.inl rfl) (pe_callR DR_plan_from hr (by decide) pass_tr (pd_acons (pd_var (pv 0)) pd_anil)))))) (fun a => (pd_one (pd_ret (pd_callW (G := W_law_word) (y := a) DW_law_word (hr.markX _) (by decide) rfl (pd_acons (pd_var (pv 2)) pd_anil))))) (fun c d h => CE c (handOf_mem h)) hh_law_made mL sc_law_made.nd)
  (pd_one (pd_ret (pd_var (pv 1)))))
theorem ok_law_like (F : Df K mg "_law_like" s_law_like ["_law_found", "_law_due_here"]) (B : Bs mg) (D_law_whole : Dn P w K mg base 1 "_law_whole" ["_law_thing"] (spD K 1 G_law_whole)) : Dn P w K mg base 2 "_law_like" ["_law_found", "_law_due_here"] (spD K 2 G_law_like) :=
 pd_def [] g_law_like F sc_law_like fun f cdv A outer s H E hr => (pd_seq (pd_if (pd_truth (PE.sh (pd_isi "str" B.isinstance (pd_own (pv 1)) (pe_bltn rfl B.str bt_str (v := .ty "str") rfl)))) (pd_one (pd_ret (pd_and (pd_isi "str" B.isinstance (pd_own (pv 0)) (pe_bltn rfl B.str bt_str (v := .ty "str") rfl)) (pe_one (pd_cmp (op_eqH hr) imp_eq (pd_own (pv 0)) (pd_own (pv 1)) (nomark _)))))) pd_nil)
  (pd_seq (pd_if (PW.pt (pd_tor (pd_tnot (pd_truth (PE.sh (pd_isi "tuple" B.isinstance (pd_own (pv 0)) (pe_bltn rfl B.tuple bt_tuple (v := .ty "tuple") rfl))))) (pw_or1 (pd_tcmp (op_neH hr) imp_ne (pd_own (pv 0)) (pd_own (pv 1)) (nomark _))))) (pd_one (pd_ret (pd_bl pe_bl))) pd_nil)
  (pd_seq (pd_for PassesOwn.never rfl (pd_iseq (pd_var (pv 0))) (pd_gname (pg_name (i := 2) sc_law_like.nd rfl (Or.inl rfl)))
   (pd_one (pd_if (PW.pt (pd_tor (pd_tnot (pd_truth (PE.sh (pd_isi "tuple" B.isinstance (pd_own (pv 2)) (pe_bltn rfl B.tuple bt_tuple (v := .ty "tuple") rfl))))) (pw_or1 (pd_tnot (pd_truth (PE.sh (pd_callB (call_allB rfl) imp_all rfl B.all bt_all (pd_shcons (PE.sh (PE.nE (PE.asC (pd_compL (defScope s_law_like) ["_law_found", "_law_due_here", "_law_row"] [] ["_law_one"] ["_law_one"] own1 (PI.c (pd_iseq (pd_var (pv 2)))) (fun _ _ _ _ _ _ => (pd_gname (pg_name (i := 0) (show (["_law_one"] : List Str).Nodup from by decide +kernel) rfl (Or.inl rfl)))) (fun _ _ _ _ _ _ => pd_fnil) (fun _ _ _ _ _ _ => (pd_call D_law_whole hr (by decide) (pd_acons (pd_var (pv 0)) pd_anil))))))) pd_shnil)))))))) (pd_one (pd_ret (pd_bl pe_bl))) pd_nil)))
  (pd_one (pd_ret (pd_bl pe_bl))))))
theorem ok_law_counts (F : Df K mg "_law_counts" s_law_counts ["_law_script", "_law_way"]) (B : Bs mg) (D_law_cell : Dn P w K mg base 1 "_law_cell" ["_law_script", "_law_k"] (spD K 2 G_law_cell)) (D_law_digits : Dn P w K mg base 1 "_law_digits" ["_law_cell_here", "_law_base", "_law_many"] (spN K 3 G_law_digits)) (D_law_mixes : Dn P w K mg base 1 "_law_mixes" ["_law_cell_here", "_law_base", "_law_many"] (spN K 3 G_law_mixes)) (D_law_most : Dn P w K mg base 1 "_law_most" ["_law_cell_here"] (spD K 1 G_law_most)) (D_law_plan : Dn P w K mg base 2 "_law_plan" ["_law_cell_here", "_law_most_here"] (spD K 2 G_law_plan)) : Dn P w K mg base 3 "_law_counts" ["_law_script", "_law_way"] (spN K 2 G_law_counts) :=
 pd_defN [6] g_law_counts F sc_law_counts fun f cdv A outer s H E hr => (pd_seq (pd_set (ps_set (i := 2) sc_law_counts.nd rfl (Or.inl rfl) (pd_call D_law_cell hr (by decide) (pd_acons (pd_var (pv 0)) (pd_acons (pd_int pe_int) pd_anil)))))
  (pd_seq (pd_if (pd_tcmp (op_eqH hr) imp_eq (pd_own (pv 1)) (PE.sh (pd_int pe_int)) (nomark _)) (pd_seq (pd_set (ps_set (i := 3) sc_law_counts.nd rfl (Or.inr rfl) (PE.nE (pd_callN D_law_digits hr (by decide) (pd_acons (pd_var (pv 2)) (pd_acons (pd_int pe_int) (pd_acons (pd_int pe_int) pd_anil)))))))
  (pd_seq (pd_if (pd_tchain op_lt imp_Ib op_lt imp_Ib (PE.sh (pd_neg (PE.sh (pd_op op_pow imp_Ic (PE.sh (pd_int pe_int)) (PE.sh (pd_int pe_int)))))) (pd_own (pv 2)) (PE.sh (pd_op op_pow imp_Ic (PE.sh (pd_int pe_int)) (PE.sh (pd_int pe_int))))) (pd_one (pd_set (ps_set (i := 3) sc_law_counts.nd rfl (Or.inr rfl) (PE.nE (pd_callN D_law_mixes hr (by decide) (pd_acons (pd_var (pv 2)) (pd_acons (pd_int pe_int) (pd_acons (pd_int pe_int) pd_anil)))))))) pd_nil)
  (pd_one (pd_retN (pd_compL (defScope s_law_counts) ["_law_script", "_law_way", "_law_cell_here", "_law_digits_here", "_law_low", "_law_plan_here", "_law_counts_here", "_law_draws", "_law_row"] [3] ["_law_k", "_law_digits_here"] ["_law_k"] own1 (PI.c (pd_range1 B.range (pd_acons (pd_int pe_int) pd_anil))) (fun _ _ _ _ _ _ => (pd_gname (pg_name (i := 0) (show (["_law_k", "_law_digits_here"] : List Str).Nodup from by decide +kernel) rfl (Or.inl rfl)))) (fun _ _ _ _ _ _ => (pf_one (PW.pt (pd_tor (pd_tcmp (op_eqH hr) imp_eq (PE.sh (pd_ix (pd_own (pv 1)) (pd_own (pv 0)))) (PE.sh (pd_int pe_int)) (nomark _)) (pw_or1 (pd_tcmp (op_eqH hr) imp_eq (pd_own (pv 0)) (PE.sh (pd_int pe_int)) (nomark _))))))) (fun _ _ _ _ _ _ => (pd_tup (pd_acons (pd_op op_modN imp_Ic (pd_own (pv 0)) (PE.sh (pd_int pe_int))) (pd_acons (pd_op op_fdivS imp_Ic (pd_own (pv 0)) (PE.sh (pd_int pe_int))) pd_anil))))))))) pd_nil)
  (pd_seq (pd_if (pd_tcmp (op_eqH hr) imp_eq (pd_own (pv 1)) (PE.sh (pd_int pe_int)) (nomark _)) (pd_one (pd_retN (pd_opN op_catR imp_cat (PE.sh (PE.nE (PE.asC (pd_compL (defScope s_law_counts) ["_law_script", "_law_way", "_law_cell_here", "_law_digits_here", "_law_low", "_law_plan_here", "_law_counts_here", "_law_draws", "_law_row"] [] ["_law_cell_here"] ["_law_cell_here"] own1 (PI.c (pd_iseq (PE.nE (pd_slL (pd_own (pv 0)) (pd_psome (PE.sh (pd_int pe_int))) (pd_psome (PE.sh (pd_int pe_int))))))) (fun _ _ _ _ _ _ => (pd_gname (pg_name (i := 0) (show (["_law_cell_here"] : List Str).Nodup from by decide +kernel) rfl (Or.inl rfl)))) (fun _ _ _ _ _ _ => pd_fnil) (fun _ _ _ _ _ _ => (pd_tup (pd_acons (pd_op op_modN imp_Ic (pd_own (pv 0)) (PE.sh (pd_int pe_int))) (pd_acons (pd_op op_modN imp_Ic (PE.sh (pd_op op_fdivS imp_Ic (pd_own (pv 0)) (PE.sh (pd_int pe_int)))) (PE.sh (pd_int pe_int))) pd_anil)))))))) (PE.sh (PE.nE (pd_lst (pd_acons (pd_tup (pd_acons (pd_int pe_int) (pd_acons (pd_int pe_int) pd_anil))) pd_anil))))))) pd_nil)
  (pd_seq (pd_if (pd_tcmp (op_eqH hr) imp_eq (pd_own (pv 1)) (PE.sh (pd_int pe_int)) (nomark _)) (pd_seq (pd_set (ps_set (i := 4) sc_law_counts.nd rfl (Or.inr rfl) (pd_op op_modN imp_Ic (pd_own (pv 2)) (PE.sh (pd_int pe_int)))))
  (pd_one (pd_retN (PE.asC (pd_compL (defScope s_law_counts) ["_law_script", "_law_way", "_law_cell_here", "_law_digits_here", "_law_low", "_law_plan_here", "_law_counts_here", "_law_draws", "_law_row"] [4] ["_law_k", "_law_low"] ["_law_k"] own1 (PI.c (pd_range1 B.range (pd_acons (pd_op op_addV imp_addV (PE.sh (pd_int pe_int)) (PE.sh (pd_op op_modN imp_Ic (PE.sh (pd_op op_fdivS imp_Ic (pd_own (pv 2)) (PE.sh (pd_int pe_int)))) (PE.sh (pd_int pe_int))))) pd_anil))) (fun _ _ _ _ _ _ => (pd_gname (pg_name (i := 0) (show (["_law_k", "_law_low"] : List Str).Nodup from by decide +kernel) rfl (Or.inl rfl)))) (fun _ _ _ _ _ _ => pd_fnil) (fun _ _ _ _ _ _ => (pd_tup (pd_acons (pd_callB (call_min2 rfl) imp_min rfl B.min bt_min (pd_shcons (pd_own (pv 0)) (pd_shcons (pd_own (pv 1)) pd_shnil))) (pd_acons (pd_callB (call_max2 rfl) imp_max rfl B.max bt_max (pd_shcons (PE.sh (pd_int pe_int)) (pd_shcons (PE.sh (pd_op op_sub imp_I (pd_own (pv 0)) (pd_own (pv 1)))) pd_shnil))) pd_anil))))))))) pd_nil)
  (pd_seq (pd_set (ps_set (i := 5) sc_law_counts.nd rfl (Or.inl rfl) (pd_call D_law_plan hr (by decide) (pd_acons (pd_call D_law_cell hr (by decide) (pd_acons (pd_var (pv 0)) (pd_acons (pd_int pe_int) pd_anil))) (pd_acons (pd_call D_law_most hr (by decide) (pd_acons (pd_call D_law_cell hr (by decide) (pd_acons (pd_var (pv 0)) (pd_acons (pd_int pe_int) pd_anil))) pd_anil)) pd_anil)))))
  (pd_seq (pd_setN (ps_set (i := 6) sc_law_counts.nd rfl (Or.inl rfl) (pd_lst pd_anil)))
  (pd_seq (pd_for PassesOwn.never rfl (pd_enumT B.enumerate (pd_var (pv 5))) (pd_gtup rfl (pd_gcons (pd_gname (pg_name (i := 7) sc_law_counts.nd rfl (Or.inr rfl))) (pd_gcons (pd_gname (pg_name (i := 8) sc_law_counts.nd rfl (Or.inl rfl))) pd_gnil)))
   (pd_one (pd_extend (ps_expr (pe_bm PySem.F.plainAttrs_list PySem.F.slot_list_extend PySem.F.type_list_extend mt_extend (pv 6) (pa_cons (PE.asC (pd_compL (defScope s_law_counts) ["_law_script", "_law_way", "_law_cell_here", "_law_digits_here", "_law_low", "_law_plan_here", "_law_counts_here", "_law_draws", "_law_row"] [7] ["_law_bad", "_law_draws"] ["_law_bad"] own1 (PI.c (pd_iseq (pd_var (pv 8)))) (fun _ _ _ _ _ _ => (pd_gname (pg_name (i := 0) (show (["_law_bad", "_law_draws"] : List Str).Nodup from by decide +kernel) rfl (Or.inl rfl)))) (fun _ _ _ _ _ _ => pd_fnil) (fun _ _ _ _ _ _ => (pd_tup (pd_acons (pd_var (pv 0)) (pd_acons (pd_op op_sub imp_I (pd_own (pv 1)) (pd_own (pv 0))) pd_anil)))))) pa_nil))))))
  (pd_one (pd_retN (pd_opN op_catR imp_cat (pd_own (pv 6)) (PE.sh (PE.nE (PE.asC (pd_compL (defScope s_law_counts) ["_law_script", "_law_way", "_law_cell_here", "_law_digits_here", "_law_low", "_law_plan_here", "_law_counts_here", "_law_draws", "_law_row"] [] ["_law_cell_here"] ["_law_cell_here"] own1 (PI.c (pd_iseq (PE.nE (pd_slL (pd_own (pv 0)) (pd_psome (PE.sh (pd_int pe_int))) (pd_psome (PE.sh (pd_int pe_int))))))) (fun _ _ _ _ _ _ => (pd_gname (pg_name (i := 0) (show (["_law_cell_here"] : List Str).Nodup from by decide +kernel) rfl (Or.inl rfl)))) (fun _ _ _ _ _ _ => pd_fnil) (fun _ _ _ _ _ _ => (pd_tup (pd_acons (pd_op op_modN imp_Ic (pd_own (pv 0)) (PE.sh (pd_int pe_int))) (pd_acons (pd_op op_modN imp_Ic (PE.sh (pd_op op_fdivS imp_Ic (pd_own (pv 0)) (PE.sh (pd_int pe_int)))) (PE.sh (pd_int pe_int))) pd_anil))))))))))))))))))
theorem ok_law {f : Addr} {fd : FuncData} (F : Fun K "law" "law" s_law f fd) (B : Bs mg) (D_law_cell : Dn P w K mg base 1 "_law_cell" ["_law_script", "_law_k"] (spD K 2 G_law_cell)) (D_law_counts : Dn P w K mg base 3 "_law_counts" ["_law_script", "_law_way"] (spN K 2 G_law_counts)) (D_law_due : Dn P w K mg base 1 "_law_due" ["_law_counts_here"] (spD K 1 G_law_due)) (D_law_like : Dn P w K mg base 2 "_law_like" ["_law_found", "_law_due_here"] (spD K 2 G_law_like)) (D_law_made : Dn P w K mg base 6 "_law_made" ["_law_counts_here"] (spD K 1 G_law_made)) : FnOk P w K mg base CX0 7 f fd ["_law_script"] (spD K 1 G_law) :=
 pd_fn [2] g_law F sc_law fun f cdv A outer s H E hr => (pd_seq (pd_set (ps_set (i := 1) sc_law.nd rfl (Or.inl rfl) (pd_op op_modN imp_Ic (PE.sh (pd_op op_fdivS imp_Ic (PE.sh (pd_call D_law_cell hr (by decide) (pd_acons (pd_var (pv 0)) (pd_acons (pd_int pe_int) pd_anil)))) (PE.sh (pd_int pe_int)))) (PE.sh (pd_int pe_int)))))
  (pd_seq (pd_setN (ps_set (i := 2) sc_law.nd rfl (Or.inl rfl) (pd_callN D_law_counts hr (by decide) (pd_acons (pd_var (pv 0)) (pd_acons (pd_var (pv 1)) pd_anil)))))
  (pd_seq (pd_set (ps_set (i := 3) sc_law.nd rfl (Or.inl rfl) (pd_op op_modN imp_Ic (PE.sh (pd_call D_law_cell hr (by decide) (pd_acons (pd_var (pv 0)) (pd_acons (pd_int pe_int) pd_anil)))) (PE.sh (pd_callB call_lenU imp_len rfl B.len bt_len (pd_shcons (pd_own (pv 2)) pd_shnil))))))
  (pd_seq (pd_setN (ps_set (i := 2) sc_law.nd rfl (Or.inl rfl) (pd_opN op_catR imp_cat (PE.sh (PE.nE (pd_opN op_catR imp_cat (PE.sh (PE.nE (pd_slL (pd_own (pv 2)) (pd_psome (pd_own (pv 3))) pd_pnone))) (PE.sh (PE.nE (pd_slL (pd_own (pv 2)) pd_pnone (pd_psome (pd_own (pv 3))))))))) (PE.sh (PE.nE (pd_slL (pd_own (pv 2)) pd_pnone (pd_psome (PE.sh (pd_op op_modN imp_Ic (pd_own (pv 3)) (PE.sh (pd_int pe_int)))))))))))
  (pd_seq (pd_if (pd_tcmp (op_eqH hr) imp_eq (PE.sh (pd_op op_modN imp_Ic (PE.sh (pd_op op_fdivS imp_Ic (PE.sh (pd_call D_law_cell hr (by decide) (pd_acons (pd_var (pv 0)) (pd_acons (pd_int pe_int) pd_anil)))) (PE.sh (pd_int pe_int)))) (PE.sh (pd_int pe_int)))) (PE.sh (pd_int pe_int)) (nomark _)) (pd_one (pd_setN (pd_setCL (i := 2) (defScope s_law) ["_law_script", "_law_way", "_law_counts_here", "_law_turn", "_law_handed"] [] ["_law_count"] ["_law_count"] sc_law.nd rfl rfl own1 (pd_iown (pd_own (pv 2))) (fun _ _ _ _ _ _ => (pd_gname (pg_name (i := 0) (show (["_law_count"] : List Str).Nodup from by decide +kernel) rfl (Or.inl rfl)))) (fun _ _ _ _ _ _ => (pf_one (pd_tcmp (op_neH hr) imp_ne (pd_own (pv 0)) (PE.sh (pd_tup (pd_acons (pd_int pe_int) (pd_acons (pd_int pe_int) pd_anil)))) (nomark _)))) (fun _ _ _ _ _ _ => (pd_var (pv 0)))))) pd_nil)
  (pd_seq (pd_set (ps_set (i := 4) sc_law.nd rfl (Or.inl rfl) (PE.nE (pd_callTyN call_list_of imp_list rfl B.list bt_list (pd_shcons (pd_own (pv 2)) pd_shnil)))))
  (pd_seq (pd_if (PW.pt (pd_tor (pd_tnot (pd_truth (PE.sh (pd_call D_law_like hr (by decide) (pd_acons (pd_call D_law_made hr (by decide) (pd_acons (pd_var (pv 4)) pd_anil)) (pd_acons (pd_callSh D_law_due hr (by decide) (pd_shcons (pd_own (pv 2)) pd_shnil)) pd_anil)))))) (pw_or1 (pd_tcmp (op_neH hr) imp_ne (pd_own (pv 4)) (pd_own (pv 2)) (nomark _))))) (pd_one (pd_ret (pd_bl pe_bl))) pd_nil)
  (pd_seq (pd_reverse (ps_expr (pe_bm0 PySem.F.plainAttrs_list PySem.F.slot_list_reverse PySem.F.type_list_reverse mt_reverse (pv 2))))
  (pd_one (pd_ret (pd_call D_law_like hr (by decide) (pd_acons (pd_callSh D_law_made hr (by decide) (pd_shcons (pd_own (pv 2)) pd_shnil)) (pd_acons (pd_callSh D_law_due hr (by decide) (pd_shcons (pd_own (pv 2)) pd_shnil)) pd_anil)))))))))))))
end
end MyLaw
namespace MyLaw
open PySem L2 Q1
structure QF (K : PySem.W.Frag) (n : Str) (st : Stmt) (f : Addr) (od an : Option Addr) (sl : Array (Option Value)) (oc kV dc pm cd ct : Value) : Prop where
 a : PySem.W.nsIn K mainGlobals n = some (some (.ref f))
 l : K.lookup f = some ⟨oc, od, .func (PySem.W.fnOf n n (defArgs st) (defBody st) (defScope st) .none kV dc pm an cd ct), sl⟩
 c : PySem.W.codeIn K cd n = true
 k : PySem.W.keepIn K (.ref f) = true
theorem len_s {us : List Value} {n : Nat} (h : us.length = n + 1) : ∃ a r, us = a :: r /\ r.length = n := by cases us with | nil => cases h | cons a r => exact ⟨a, r, rfl, Nat.succ.inj h⟩
theorem len_1 (us : List Value) (h : us.length = 1) : ∃ a0, us = [a0] := by obtain ⟨a, r, rfl, g⟩ := len_s h; rw [List.length_eq_zero_iff.mp g]; exact ⟨a, rfl⟩
theorem len_2 (us : List Value) (h : us.length = 2) : ∃ a0 a1, us = [a0, a1] := by obtain ⟨a, r, rfl, g⟩ := len_s h; obtain ⟨a0, rfl⟩ := len_1 r g; exact ⟨a, a0, rfl⟩
theorem len_3 (us : List Value) (h : us.length = 3) : ∃ a0 a1 a2, us = [a0, a1, a2] := by obtain ⟨a, r, rfl, g⟩ := len_s h; obtain ⟨a0, a1, rfl⟩ := len_2 r g; exact ⟨a, a0, a1, rfl⟩
section
variable {K : PySem.W.Frag} {mg : Str -> Option Value} {f c : Addr} {fd : FuncData}
theorem df_plan_while (F : Fun K "plan_while" "plan_while" s_plan_while f fd) (m : mg "plan_while" = some (.ref f)) : Df K mg "plan_while" s_plan_while ["draws_on"] := ⟨f, fd, F, m, F.binds fun _ _ _ _ _ _ us hl => by obtain ⟨a0, rfl⟩ := len_1 us hl; rfl⟩
theorem df_led_to (F : Fun K "led_to" "led_to" s_led_to f fd) (m : mg "led_to" = some (.ref f)) : Df K mg "led_to" s_led_to ["place"] := ⟨f, fd, F, m, F.binds fun _ _ _ _ _ _ us hl => by obtain ⟨a0, rfl⟩ := len_1 us hl; rfl⟩
theorem df_law_cell (F : Fun K "_law_cell" "_law_cell" s_law_cell f fd) (m : mg "_law_cell" = some (.ref f)) : Df K mg "_law_cell" s_law_cell ["_law_script", "_law_k"] := ⟨f, fd, F, m, F.binds fun _ _ _ _ _ _ us hl => by obtain ⟨a0, a1, rfl⟩ := len_2 us hl; rfl⟩
theorem df_law_digits (F : Fun K "_law_digits" "_law_digits" s_law_digits f fd) (m : mg "_law_digits" = some (.ref f)) : Df K mg "_law_digits" s_law_digits ["_law_cell_here", "_law_base", "_law_many"] := ⟨f, fd, F, m, F.binds fun _ _ _ _ _ _ us hl => by obtain ⟨a0, a1, a2, rfl⟩ := len_3 us hl; rfl⟩
theorem df_law_mixes (F : Fun K "_law_mixes" "_law_mixes" s_law_mixes f fd) (m : mg "_law_mixes" = some (.ref f)) : Df K mg "_law_mixes" s_law_mixes ["_law_cell_here", "_law_base", "_law_many"] := ⟨f, fd, F, m, F.binds fun _ _ _ _ _ _ us hl => by obtain ⟨a0, a1, a2, rfl⟩ := len_3 us hl; rfl⟩
theorem df_law_plan (F : Fun K "_law_plan" "_law_plan" s_law_plan f fd) (m : mg "_law_plan" = some (.ref f)) : Df K mg "_law_plan" s_law_plan ["_law_cell_here", "_law_most_here"] := ⟨f, fd, F, m, F.binds fun _ _ _ _ _ _ us hl => by obtain ⟨a0, a1, rfl⟩ := len_2 us hl; rfl⟩
theorem df_law_most (F : Fun K "_law_most" "_law_most" s_law_most f fd) (m : mg "_law_most" = some (.ref f)) : Df K mg "_law_most" s_law_most ["_law_cell_here"] := ⟨f, fd, F, m, F.binds fun _ _ _ _ _ _ us hl => by obtain ⟨a0, rfl⟩ := len_1 us hl; rfl⟩
theorem df_law_whole (F : Fun K "_law_whole" "_law_whole" s_law_whole f fd) (m : mg "_law_whole" = some (.ref f)) : Df K mg "_law_whole" s_law_whole ["_law_thing"] := ⟨f, fd, F, m, F.binds fun _ _ _ _ _ _ us hl => by obtain ⟨a0, rfl⟩ := len_1 us hl; rfl⟩
theorem df_law_due (F : Fun K "_law_due" "_law_due" s_law_due f fd) (m : mg "_law_due" = some (.ref f)) : Df K mg "_law_due" s_law_due ["_law_counts_here"] := ⟨f, fd, F, m, F.binds fun _ _ _ _ _ _ us hl => by obtain ⟨a0, rfl⟩ := len_1 us hl; rfl⟩
theorem df_law_word (F : Fun K "_law_word" "_law_word" s_law_word f fd) (m : mg "_law_word" = some (.ref f)) : Df K mg "_law_word" s_law_word ["_law_e"] := ⟨f, fd, F, m, F.binds fun _ _ _ _ _ _ us hl => by obtain ⟨a0, rfl⟩ := len_1 us hl; rfl⟩
theorem df_law_made (F : Fun K "_law_made" "_law_made" s_law_made f fd) (m : mg "_law_made" = some (.ref f)) : Df K mg "_law_made" s_law_made ["_law_counts_here"] := ⟨f, fd, F, m, F.binds fun _ _ _ _ _ _ us hl => by obtain ⟨a0, rfl⟩ := len_1 us hl; rfl⟩
theorem df_law_like (F : Fun K "_law_like" "_law_like" s_law_like f fd) (m : mg "_law_like" = some (.ref f)) : Df K mg "_law_like" s_law_like ["_law_found", "_law_due_here"] := ⟨f, fd, F, m, F.binds fun _ _ _ _ _ _ us hl => by obtain ⟨a0, a1, rfl⟩ := len_2 us hl; rfl⟩
theorem df_law_counts (F : Fun K "_law_counts" "_law_counts" s_law_counts f fd) (m : mg "_law_counts" = some (.ref f)) : Df K mg "_law_counts" s_law_counts ["_law_script", "_law_way"] := ⟨f, fd, F, m, F.binds fun _ _ _ _ _ _ us hl => by obtain ⟨a0, a1, rfl⟩ := len_2 us hl; rfl⟩
theorem df_law (F : Fun K "law" "law" s_law f fd) (m : mg "law" = some (.ref f)) : Df K mg "law" s_law ["_law_script"] := ⟨f, fd, F, m, F.binds fun _ _ _ _ _ _ us hl => by obtain ⟨a0, rfl⟩ := len_1 us hl; rfl⟩
theorem df_plan_from (F : Fun K "plan_from" "plan_from" s_plan_from f fd) (e : fd.code = .ref c) (m : mg "plan_from" = some (.ref f)) : DfC K mg "plan_from" s_plan_from ["counts"] c := ⟨f, fd, F, e, m, F.binds fun _ _ _ _ _ _ us hl => by obtain ⟨a0, rfl⟩ := len_1 us hl; rfl⟩
end
theorem all_mk {l : PySem.W.OpenLaw} {w : World} {K : PySem.W.Frag} {h : Heap} {mg : Str -> Option Value} {fa : Addr} (X : K.In h) (G : h.Ns mainGlobals mg) (hfa : mg "law" = some (.ref fa))
  {f1 f2 f3 f4 f5 f6 f7 f8 f9 f10 f11 f12 f13 f14 f15 : Addr} {od1 an1 od2 an2 od3 an3 od4 an4 od5 an5 od6 an6 od7 an7 od8 an8 od9 an9 od10 an10 od11 an11 od12 an12 od13 an13 od14 an14 od15 an15 : Option Addr} {sl1 sl2 sl3 sl4 sl5 sl6 sl7 sl8 sl9 sl10 sl11 sl12 sl13 sl14 sl15 : Array (Option Value)} {oc1 kV1 dc1 pm1 cd1 ct1 oc2 kV2 dc2 pm2 cd2 ct2 oc3 kV3 dc3 pm3 cd3 ct3 oc4 kV4 dc4 pm4 cd4 ct4 oc5 kV5 dc5 pm5 cd5 ct5 oc6 kV6 dc6 pm6 cd6 ct6 oc7 kV7 dc7 pm7 cd7 ct7 oc8 kV8 dc8 pm8 cd8 ct8 oc9 kV9 dc9 pm9 cd9 ct9 oc10 kV10 dc10 pm10 cd10 ct10 oc11 kV11 dc11 pm11 cd11 ct11 oc12 kV12 dc12 pm12 cd12 ct12 oc13 kV13 dc13 pm13 cd13 ct13 oc14 kV14 dc14 pm14 cd14 ct14 oc15 kV15 dc15 pm15 cd15 ct15 : Value}
  (q1 : QF K "plan_from" s_plan_from f1 od1 an1 sl1 oc1 kV1 dc1 pm1 cd1 ct1)
  (q2 : QF K "plan_while" s_plan_while f2 od2 an2 sl2 oc2 kV2 dc2 pm2 cd2 ct2)
  (q3 : QF K "led_to" s_led_to f3 od3 an3 sl3 oc3 kV3 dc3 pm3 cd3 ct3)
  (q4 : QF K "_law_cell" s_law_cell f4 od4 an4 sl4 oc4 kV4 dc4 pm4 cd4 ct4)
  (q5 : QF K "_law_digits" s_law_digits f5 od5 an5 sl5 oc5 kV5 dc5 pm5 cd5 ct5)
  (q6 : QF K "_law_mixes" s_law_mixes f6 od6 an6 sl6 oc6 kV6 dc6 pm6 cd6 ct6)
  (q7 : QF K "_law_plan" s_law_plan f7 od7 an7 sl7 oc7 kV7 dc7 pm7 cd7 ct7)
  (q8 : QF K "_law_most" s_law_most f8 od8 an8 sl8 oc8 kV8 dc8 pm8 cd8 ct8)
  (q9 : QF K "_law_whole" s_law_whole f9 od9 an9 sl9 oc9 kV9 dc9 pm9 cd9 ct9)
  (q10 : QF K "_law_due" s_law_due f10 od10 an10 sl10 oc10 kV10 dc10 pm10 cd10 ct10)
  (q11 : QF K "_law_word" s_law_word f11 od11 an11 sl11 oc11 kV11 dc11 pm11 cd11 ct11)
  (q12 : QF K "_law_made" s_law_made f12 od12 an12 sl12 oc12 kV12 dc12 pm12 cd12 ct12)
  (q13 : QF K "_law_like" s_law_like f13 od13 an13 sl13 oc13 kV13 dc13 pm13 cd13 ct13)
  (q14 : QF K "_law_counts" s_law_counts f14 od14 an14 sl14 oc14 kV14 dc14 pm14 cd14 ct14)
  (q15 : QF K "law" s_law f15 od15 an15 sl15 oc15 kV15 dc15 pm15 cd15 ct15)
  {tMOST_PLACES : Tok} (aMOST_PLACES : PySem.W.nsIn K mainGlobals "MOST_PLACES" = some (some (.int 24 tMOST_PLACES)))
  (z_len : PySem.W.nsIn K mainGlobals "len" = some none)
  (z_range : PySem.W.nsIn K mainGlobals "range" = some none)
  (z_isinstance : PySem.W.nsIn K mainGlobals "isinstance" = some none)
  (z_max : PySem.W.nsIn K mainGlobals "max" = some none)
  (z_min : PySem.W.nsIn K mainGlobals "min" = some none)
  (z_int : PySem.W.nsIn K mainGlobals "int" = some none)
  (z_bool : PySem.W.nsIn K mainGlobals "bool" = some none)
  (z_tuple : PySem.W.nsIn K mainGlobals "tuple" = some none)
  (z_list : PySem.W.nsIn K mainGlobals "list" = some none)
  (z_abs : PySem.W.nsIn K mainGlobals "abs" = some none)
  (z_str : PySem.W.nsIn K mainGlobals "str" = some none)
  (z_sum : PySem.W.nsIn K mainGlobals "sum" = some none)
  (z_sorted : PySem.W.nsIn K mainGlobals "sorted" = some none)
  (z_reversed : PySem.W.nsIn K mainGlobals "reversed" = some none)
  (z_enumerate : PySem.W.nsIn K mainGlobals "enumerate" = some none)
  (z_set : PySem.W.nsIn K mainGlobals "set" = some none)
  (z_all : PySem.W.nsIn K mainGlobals "all" = some none)
  (z_zip : PySem.W.nsIn K mainGlobals "zip" = some none)
  (z_any : PySem.W.nsIn K mainGlobals "any" = some none)
  {P1 c1 : Addr} (lt : lamTab = [(P1, (⟨42, 22, 42, 69⟩ : Pos), ("plan_from.<locals>.<lambda>" : Str))])
  (ct : cstTab = [])
  (e1 : cd1 = .ref c1)
  (HD_plan_from : PySem.W.codeHdIn K c1 P1 = true)
  (kn1 : K.lookup P1 = none)
  {cNoPlan : Addr} (aNoPlan : PySem.W.nsIn K mainGlobals "NoPlan" = some (some (.ref cNoPlan)))
  (qxNoPlan : PySem.W.excIn K cNoPlan VE "ValueError.__new__" = true)
  {cTooLong : Addr} (aTooLong : PySem.W.nsIn K mainGlobals "TooLong" = some (some (.ref cTooLong)))
  (qxTooLong : PySem.W.excIn K cTooLong VE "ValueError.__new__" = true)
  {cL : Addr} (aL : PySem.W.nsIn K mainGlobals "LotError" = some (some (.ref cL)))
  (zE : PySem.W.nsIn K mainGlobals "ValueError" = some none)
  (qc : clsB K cL CSX TSX = true)
  : LamOk K /\ ∃ fd : FuncData, (∀ (s : Shared) (v : Value), BindsTo s fd ⟨[v], []⟩ [("_law_script", v)]) /\ ∀ base : Heap, K.In base -> base.Ns mainGlobals mg -> BAt mg base -> FnOk l.prog w K mg base CX0 7 fa fd ["_law_script"] (spD K 1 G_law) := by
 have e := hfa.symm.trans (PySem.W.mg_of X G q15.a)
 cases e
 have LO : LamOk K := ⟨(fun p y q m => by rw [lt] at m ⊢; simp only [List.mem_cons, List.not_mem_nil, or_false, Prod.mk.injEq] at m; rcases m with ⟨rfl, rfl, rfl⟩ <;> simp [List.lookup_cons, *]), (fun p y q m => by rw [lt] at m; simp only [List.mem_cons, List.not_mem_nil, or_false, Prod.mk.injEq] at m; rcases m with ⟨rfl, rfl, rfl⟩ <;> first | exact ⟨kn1, _, HD_plan_from⟩)⟩
 have d_plan_from : DfC K mg "plan_from" s_plan_from ["counts"] c1 := df_plan_from (fun_mk (st := s_plan_from) q1.l q1.c q1.k) e1 (PySem.W.mg_of X G q1.a)
 have d_plan_while : Df K mg "plan_while" s_plan_while ["draws_on"] := df_plan_while (fun_mk (st := s_plan_while) q2.l q2.c q2.k) (PySem.W.mg_of X G q2.a)
 have d_led_to : Df K mg "led_to" s_led_to ["place"] := df_led_to (fun_mk (st := s_led_to) q3.l q3.c q3.k) (PySem.W.mg_of X G q3.a)
 have d_law_cell : Df K mg "_law_cell" s_law_cell ["_law_script", "_law_k"] := df_law_cell (fun_mk (st := s_law_cell) q4.l q4.c q4.k) (PySem.W.mg_of X G q4.a)
 have d_law_digits : Df K mg "_law_digits" s_law_digits ["_law_cell_here", "_law_base", "_law_many"] := df_law_digits (fun_mk (st := s_law_digits) q5.l q5.c q5.k) (PySem.W.mg_of X G q5.a)
 have d_law_mixes : Df K mg "_law_mixes" s_law_mixes ["_law_cell_here", "_law_base", "_law_many"] := df_law_mixes (fun_mk (st := s_law_mixes) q6.l q6.c q6.k) (PySem.W.mg_of X G q6.a)
 have d_law_plan : Df K mg "_law_plan" s_law_plan ["_law_cell_here", "_law_most_here"] := df_law_plan (fun_mk (st := s_law_plan) q7.l q7.c q7.k) (PySem.W.mg_of X G q7.a)
 have d_law_most : Df K mg "_law_most" s_law_most ["_law_cell_here"] := df_law_most (fun_mk (st := s_law_most) q8.l q8.c q8.k) (PySem.W.mg_of X G q8.a)
 have d_law_whole : Df K mg "_law_whole" s_law_whole ["_law_thing"] := df_law_whole (fun_mk (st := s_law_whole) q9.l q9.c q9.k) (PySem.W.mg_of X G q9.a)
 have d_law_due : Df K mg "_law_due" s_law_due ["_law_counts_here"] := df_law_due (fun_mk (st := s_law_due) q10.l q10.c q10.k) (PySem.W.mg_of X G q10.a)
 have d_law_word : Df K mg "_law_word" s_law_word ["_law_e"] := df_law_word (fun_mk (st := s_law_word) q11.l q11.c q11.k) (PySem.W.mg_of X G q11.a)
 have d_law_made : Df K mg "_law_made" s_law_made ["_law_counts_here"] := df_law_made (fun_mk (st := s_law_made) q12.l q12.c q12.k) (PySem.W.mg_of X G q12.a)
 have d_law_like : Df K mg "_law_like" s_law_like ["_law_found", "_law_due_here"] := df_law_like (fun_mk (st := s_law_like) q13.l q13.c q13.k) (PySem.W.mg_of X G q13.a)
 have d_law_counts : Df K mg "_law_counts" s_law_counts ["_law_script", "_law_way"] := df_law_counts (fun_mk (st := s_law_counts) q14.l q14.c q14.k) (PySem.W.mg_of X G q14.a)
 have d_law : Df K mg "law" s_law ["_law_script"] := df_law (fun_mk (st := s_law) q15.l q15.c q15.k) (PySem.W.mg_of X G q15.a)
 have C_MOST_PLACES : Cn mg "MOST_PLACES" (.int 24) := ⟨_, PySem.W.mg_of X G aMOST_PLACES, ⟨_, rfl⟩⟩
 have B : Bs mg := ⟨PySem.W.mg_none_of X G z_len, PySem.W.mg_none_of X G z_range, PySem.W.mg_none_of X G z_isinstance, PySem.W.mg_none_of X G z_max, PySem.W.mg_none_of X G z_min, PySem.W.mg_none_of X G z_int, PySem.W.mg_none_of X G z_bool, PySem.W.mg_none_of X G z_tuple, PySem.W.mg_none_of X G z_list, PySem.W.mg_none_of X G z_abs, PySem.W.mg_none_of X G z_str, PySem.W.mg_none_of X G z_sum, PySem.W.mg_none_of X G z_sorted, PySem.W.mg_none_of X G z_reversed, PySem.W.mg_none_of X G z_enumerate, PySem.W.mg_none_of X G z_set, PySem.W.mg_none_of X G z_all, PySem.W.mg_none_of X G z_zip, PySem.W.mg_none_of X G z_any⟩
 have ML_plan_from : (P1, (⟨42, 22, 42, 69⟩ : Pos), ("plan_from.<locals>.<lambda>" : Str)) ∈ lamTab := by rw [lt]; simp
 have X_NoPlan : ∃ C tl, ExC K mg "NoPlan" C VE tl "ValueError.__new__" := ⟨_, exc_of (PySem.W.mg_of X G aNoPlan) qxNoPlan⟩
 have X_TooLong : ∃ C tl, ExC K mg "TooLong" C VE tl "ValueError.__new__" := ⟨_, exc_of (PySem.W.mg_of X G aTooLong) qxTooLong⟩
 have mL := PySem.W.mg_of X G aL
 have zVE := PySem.W.mg_none_of X G zE
 have CT := clTs_of X G qc
 have kVE := clVE_of qc
 have CE := clEs_of X G qc
 refine ⟨LO, PySem.W.fnOf "law" "law" (defArgs s_law) (defBody s_law) (defScope s_law) .none kV15 dc15 pm15 an15 cd15 ct15, fun s v => .of_eq rfl, fun base _ _ BB => ?_⟩
 have D_led_to := ok_led_to (P := l.prog) (w := w) (base := base) d_led_to B
 have DC_plan_while : DnCR l.prog w K mg 4 2 2 "plan_while" "draws_on" R_plan_while := ⟨let ⟨f, _, F, m, _⟩ := d_plan_while; ⟨f, m, F.kp⟩, fun base f c q G _ _ C => by have D_led_to := ok_led_to (P := l.prog) (w := w) (base := base) d_led_to B; exact okR_plan_while (P := l.prog) (w := w) (base := base) d_plan_while B C_MOST_PLACES C X_TooLong D_led_to⟩
 have DR_plan_from := okR_plan_from (P := l.prog) (w := w) (base := base) d_plan_from B HD_plan_from ML_plan_from BB DC_plan_while X_NoPlan
 have D_law_cell := ok_law_cell (P := l.prog) (w := w) (base := base) d_law_cell B
 have D_law_digits := ok_law_digits (P := l.prog) (w := w) (base := base) d_law_digits B
 have D_law_mixes := ok_law_mixes (P := l.prog) (w := w) (base := base) d_law_mixes B
 have D_law_plan := ok_law_plan (P := l.prog) (w := w) (base := base) d_law_plan B D_law_digits D_law_mixes
 have D_law_most := ok_law_most (P := l.prog) (w := w) (base := base) d_law_most B
 have D_law_whole := ok_law_whole (P := l.prog) (w := w) (base := base) d_law_whole B
 have D_law_due := ok_law_due (P := l.prog) (w := w) (base := base) d_law_due B
 have DW_law_word := okW_law_word (P := l.prog) (w := w) (base := base) d_law_word B CT zVE kVE
 have D_law_made := ok_law_made (P := l.prog) (w := w) (base := base) d_law_made B mL CE DW_law_word DR_plan_from
 have D_law_like := ok_law_like (P := l.prog) (w := w) (base := base) d_law_like B D_law_whole
 have D_law_counts := ok_law_counts (P := l.prog) (w := w) (base := base) d_law_counts B D_law_cell D_law_digits D_law_mixes D_law_most D_law_plan
 exact ok_law (P := l.prog) (w := w) (base := base) (fun_mk (st := s_law) q15.l q15.c q15.k) B D_law_cell D_law_counts D_law_due D_law_like D_law_made
theorem walk {l : PySem.W.OpenLaw} {q : Program} {loose : List Str} {XP : (Str -> Option Value) -> Heap -> Prop} {YP : World -> Heap -> Prop} {d : DefRec} {K : Params -> PySem.W.Frag} (hn : l.most = some 63) (hdf : d.params.defaults = [])
  (hY : ∀ (w : World) (h : Heap), YP w h -> (K w.params).In h /\ ∀ p y q, (p, y, q) ∈ lamTab -> h.get? p = some (PySem.W.tabObj #[]))
  (F : ∀ (w : World) (mg : Str -> Option Value) (fa : Addr) (h : Heap), (K w.params).In h -> h.Ns mainGlobals mg -> mg d.name = some (.ref fa) ->
   LamOk (K w.params) /\ ∃ fd : FuncData, (∀ (s : Shared) (u : Value), BindsTo s fd ⟨[u], []⟩ [("_law_script", u)]) /\ ∀ base : Heap, (K w.params).In base -> base.Ns mainGlobals mg -> BAt mg base -> FnOk l.prog w (K w.params) mg base CX0 7 fa fd ["_law_script"] (spD (K w.params) 1 G_law)) :
  PySem.W.WalkO q loose XP YP l.row.toRowW d [] (fun f vs => PySem.call f vs) :=
 L2.walk_ofL (n := 63) (k := 7) (x := "_law_script") (sp := fun w => spD (K w.params) 1 G_law) hn (by decide) hdf ⟨rfl, by decide, by decide⟩ hY F (fun _ _ a ns hl hS hT => ⟨rfl, [], [.list (ns.map PyData.int)], .bool true, ⟨fun _ z => by simp at z, (fun _ _ m => by rw [show cstTab = [] from rfl] at m; cases m), hT⟩, by rw [wo_nil]; exact .cons (.lst hS (HDs.ints ns)) .nil, law_true ns hl, fun v H' s h => by cases h; exact ⟨rfl, s⟩⟩)
end MyLaw
open PySem PySem.W PyProof.Rows
set_option tactic.hygienic true
set_option maxRecDepth 100000 in
set_option maxHeartbeats 0 in
theorem PySem.Challenge.cw_lotdraw_k09_plans_from_counts_holds : PySem.Challenge.rw_lotdraw_k09_plans_from_counts.Holds := by
 w_on; o_law; k_head; (case hw => w_witness2)
 k_fill
 refine MyLaw.walk (l := PySem.Challenge.rw_lotdraw_k09_plans_from_counts) rfl rfl (fun w h Y => ⟨PySem.W.km_in_of Y, fun p y q m => PySem.W.km_tabs_of Y p (L2.lam_in rfl m)⟩) ?F
 case F =>
  intro w mg fa h KX G hmg
  refine' MyLaw.all_mk KX G hmg ?q1 ?q2 ?q3 ?q4 ?q5 ?q6 ?q7 ?q8 ?q9 ?q10 ?q11 ?q12 ?q13 ?q14 ?q15 ?aMOST_PLACES ?z_len ?z_range ?z_isinstance ?z_max ?z_min ?z_int ?z_bool ?z_tuple ?z_list ?z_abs ?z_str ?z_sum ?z_sorted ?z_reversed ?z_enumerate ?z_set ?z_all ?z_zip ?z_any ?lt ?ct ?e1 ?HD_plan_from ?kn1 ?aNoPlan ?qxNoPlan ?aTooLong ?qxTooLong ?aL ?zE ?qc
  (case q1 => refine' ⟨?x, ?y, ?z, ?t⟩; (case x => k_is); (case y => k_is); (case z => k_is); (case t => k_is))
  (case q2 => refine' ⟨?x, ?y, ?z, ?t⟩; (case x => k_is); (case y => k_is); (case z => k_is); (case t => k_is))
  (case q3 => refine' ⟨?x, ?y, ?z, ?t⟩; (case x => k_is); (case y => k_is); (case z => k_is); (case t => k_is))
  (case q4 => refine' ⟨?x, ?y, ?z, ?t⟩; (case x => k_is); (case y => k_is); (case z => k_is); (case t => k_is))
  (case q5 => refine' ⟨?x, ?y, ?z, ?t⟩; (case x => k_is); (case y => k_is); (case z => k_is); (case t => k_is))
  (case q6 => refine' ⟨?x, ?y, ?z, ?t⟩; (case x => k_is); (case y => k_is); (case z => k_is); (case t => k_is))
  (case q7 => refine' ⟨?x, ?y, ?z, ?t⟩; (case x => k_is); (case y => k_is); (case z => k_is); (case t => k_is))
  (case q8 => refine' ⟨?x, ?y, ?z, ?t⟩; (case x => k_is); (case y => k_is); (case z => k_is); (case t => k_is))
  (case q9 => refine' ⟨?x, ?y, ?z, ?t⟩; (case x => k_is); (case y => k_is); (case z => k_is); (case t => k_is))
  (case q10 => refine' ⟨?x, ?y, ?z, ?t⟩; (case x => k_is); (case y => k_is); (case z => k_is); (case t => k_is))
  (case q11 => refine' ⟨?x, ?y, ?z, ?t⟩; (case x => k_is); (case y => k_is); (case z => k_is); (case t => k_is))
  (case q12 => refine' ⟨?x, ?y, ?z, ?t⟩; (case x => k_is); (case y => k_is); (case z => k_is); (case t => k_is))
  (case q13 => refine' ⟨?x, ?y, ?z, ?t⟩; (case x => k_is); (case y => k_is); (case z => k_is); (case t => k_is))
  (case q14 => refine' ⟨?x, ?y, ?z, ?t⟩; (case x => k_is); (case y => k_is); (case z => k_is); (case t => k_is))
  (case q15 => refine' ⟨?x, ?y, ?z, ?t⟩; (case x => k_is); (case y => k_is); (case z => k_is); (case t => k_is))
  (case aMOST_PLACES => k_is)
  (case z_len => kernel_rfl)
  (case z_range => kernel_rfl)
  (case z_isinstance => kernel_rfl)
  (case z_max => kernel_rfl)
  (case z_min => kernel_rfl)
  (case z_int => kernel_rfl)
  (case z_bool => kernel_rfl)
  (case z_tuple => kernel_rfl)
  (case z_list => kernel_rfl)
  (case z_abs => kernel_rfl)
  (case z_str => kernel_rfl)
  (case z_sum => kernel_rfl)
  (case z_sorted => kernel_rfl)
  (case z_reversed => kernel_rfl)
  (case z_enumerate => kernel_rfl)
  (case z_set => kernel_rfl)
  (case z_all => kernel_rfl)
  (case z_zip => kernel_rfl)
  (case z_any => kernel_rfl)
  (case lt => rfl)
  (case ct => rfl)
  (case e1 => rfl)
  (case HD_plan_from => kernel_rfl)
  (case kn1 => kernel_rfl)
  (case aNoPlan => k_is)
  (case qxNoPlan => kernel_rfl)
  (case aTooLong => k_is)
  (case qxTooLong => kernel_rfl)
  (case aL => k_is)
  (case zE => kernel_rfl)
  (case qc => kernel_rfl)
