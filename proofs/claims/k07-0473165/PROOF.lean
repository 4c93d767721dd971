import PyProof.Rows.All
import Wide.All
import OpenK.AllK
import Wide.FinOn
import Lean
import PyProof.EqAt
import PyProof.EqKinds
import PyProof.TupleCall
import PyProof.ZipIter
import PyProof.Draws
import PyProof.SumAny
import PyProof.EnumMake
import PyProof.WalkInts
import PyProof.ExcArgsOwn
import PyProof.ExcAttrAll.ValueError
import PyProof.NsDelKeeps
import KE.KTryMore
import OpenK.KOwn
import PyProof.ListMulRoad
import PyProof.FactsAll.tuple_2
import PyProof.NeKinds
import PyProof.Rows.RuleIs
import PyProof.ExcInit
import PyProof.ExcClass3
import OpenK.KCls
import PyProof.InstStoreFacts
import OpenK.KMake
import PyProof.DictRoads
import PySem.Challenge.RW_lendwharf_k07_deeds_done
set_option Elab.async false
set_option linter.all false
set_option maxRecDepth 100000
/-! THE HAND LAYER, for ints, bools, texts, own classes, LISTS and tuples (index, slices, in, append, pop ..), calls, loops. Paste it whole ahead of your own text; what your proof does not reach may be deleted. -/
namespace L2
open PySem PySem.Spec PyProof.Rows

/-- a key: an int or a str -/
noncomputable abbrev Key := Sum Int Str
noncomputable def keyIs : Key → Value → Bool
  | .inl k, v => Value.isInt k v
  | .inr x, v => Value.isStrOf x v
noncomputable def keyH (w : World) : Key → Int
  | .inl k => hashInt k
  | .inr x => hashStr w x
theorem keyIs_shape : ∀ {k : Key} {v : Value}, keyIs k v = true → (∃ i t, k = Sum.inl i ∧ v = Value.int i t) ∨ (∃ x t, k = Sum.inr x ∧ v = Value.str x t)
  | .inl i, v, h => by
    obtain ⟨t, e⟩ := Value.isInt_shape (k := i) (v := v) h
    exact .inl ⟨i, t, rfl, e⟩
  | .inr x, v, h => by
    obtain ⟨t, e⟩ := Value.isStrOf_shape (x := x) (v := v) h
    exact .inr ⟨x, t, rfl, e⟩
theorem key_ll (a b : Int) : decide ((Sum.inl a : Key) = Sum.inl b) = (a == b) := by
  by_cases e : a = b
  · subst e; simp
  · have h : ¬ (Sum.inl a : Key) = Sum.inl b := fun q => e (Sum.inl.inj q)
    rw [decide_eq_false h]
    exact (beq_eq_false_iff_ne.mpr e).symm
theorem key_rr (a b : Str) : decide ((Sum.inr a : Key) = Sum.inr b) = decide (a = b) := by
  by_cases e : a = b
  · subst e; simp
  · have h : ¬ (Sum.inr a : Key) = Sum.inr b := fun q => e (Sum.inr.inj q)
    rw [decide_eq_false h, decide_eq_false e]
theorem key_lr (a : Int) (b : Str) : decide ((Sum.inl a : Key) = Sum.inr b) = false := decide_eq_false (fun q => nomatch q)
theorem key_rl (a : Str) (b : Int) : decide ((Sum.inr a : Key) = Sum.inl b) = false := decide_eq_false (fun q => nomatch q)

noncomputable def mixKind (prog : Program) (w : World) : PySem.KeyKind prog w Key where
  is := keyIs
  hash := keyH w
  inj := fun v a b ha hb => by
    rcases keyIs_shape ha with ⟨i, t, rfl, rfl⟩ | ⟨x, t, rfl, rfl⟩
    · rcases keyIs_shape hb with ⟨j, u, rfl, e⟩ | ⟨y, u, rfl, e⟩
      · injection e with e1 _; rw [e1]
      · exact nomatch e
    · rcases keyIs_shape hb with ⟨j, u, rfl, e⟩ | ⟨y, u, rfl, e⟩
      · exact nomatch e
      · injection e with e1 _; rw [e1]
  byValue := fun k v h => by
    rcases keyIs_shape h with ⟨i, t, rfl, rfl⟩ | ⟨x, t, rfl, rfl⟩ <;> rfl
  pyHash := fun hv h => by
    rcases keyIs_shape hv with ⟨i, t, rfl, rfl⟩ | ⟨x, t, rfl, rfl⟩
    · exact wpAny_pyHash_int h
    · exact wpAny_pyHash_str h
  eqBool := fun hu hv h => by
    rcases keyIs_shape hu with ⟨i, t, rfl, rfl⟩ | ⟨x, t, rfl, rfl⟩
    · rcases keyIs_shape hv with ⟨j, u, rfl, rfl⟩ | ⟨y, u, rfl, rfl⟩
      · rw [key_ll] at h; exact wpAny_eqBool_int h
      · rw [key_lr] at h; exact SeqAt.EqAt.int_str i t y u _ _ _ _ h
    · rcases keyIs_shape hv with ⟨j, u, rfl, rfl⟩ | ⟨y, u, rfl, rfl⟩
      · rw [key_rl] at h; exact SeqAt.EqAt.str_int x t j u _ _ _ _ h
      · rw [key_rr] at h; exact wpAny_eqBool_str h
  «strs» := fun k x t v h => by
    rcases keyIs_shape h with ⟨i, u, rfl, e⟩ | ⟨y, u, rfl, e⟩
    · exact nomatch e
    · injection e with e1 _
      subst e1
      cases v <;> rfl

end L2

namespace L2
open PySem PySem.Spec PyProof.Rows

/-- a value, without the heap -/
inductive V where
  | non | bl (b : Bool) | int (i : Int) | str (x : Str) | byt (b : Array UInt8) | flt (b : UInt64) | ref (a : Addr) | ty (n : String)
  deriving DecidableEq

noncomputable def RelV : V → Value → Prop
  | .non, u => u = Value.none
  | .bl b, u => u = Value.bool b
  | .int i, u => ∃ t, u = Value.int i t
  | .str x, u => ∃ t, u = Value.str x t
  | .byt b, u => ∃ t, u = Value.bytes b t
  | .flt b, u => ∃ t, u = Value.float b t
  | .ref a, u => u = Value.ref a
  | .ty n, u => u = Value.type n

noncomputable abbrev Vals : List V → List Value → Prop := Paired RelV
theorem Vals.length {xs : List V} {us : List Value} (r : Vals xs us) : xs.length = us.length := Paired.length r
theorem Vals.get : ∀ {xs : List V} {us : List Value} {i : Nat} {x : V}, Vals xs us → xs[i]? = some x → ∃ u, us[i]? = some u ∧ RelV x u
  | _, _, _, _, .nil, e => by simp at e
  | _, _, 0, _, .cons r _, e => by simp at e; subst e; exact ⟨_, rfl, r⟩
  | _, _, i + 1, x, .cons _ t, e => by
    obtain ⟨u, h1, h2⟩ := Vals.get (i := i) (x := x) t (by simpa using e)
    exact ⟨u, by simpa using h1, h2⟩
theorem Vals.set {x : V} {u : Value} (r : RelV x u) : ∀ {xs : List V} {us : List Value} (i : Nat), Vals xs us → Vals (xs.set i x) (us.set i u)
  | _, _, _, .nil => .nil
  | _, _, 0, .cons _ t => .cons r t
  | _, _, i + 1, .cons q t => .cons q (Vals.set r i t)
theorem Vals.append : ∀ {xs ys : List V} {us ws : List Value}, Vals xs us → Vals ys ws → Vals (xs ++ ys) (us ++ ws)
  | _, _, _, _, .nil, s => s
  | _, _, _, _, .cons r t, s => .cons r (Vals.append t s)
theorem Vals.take : ∀ {xs : List V} {us : List Value} (n : Nat), Vals xs us → Vals (xs.take n) (us.take n)
  | _, _, 0, _ => .nil
  | _, _, _ + 1, .nil => .nil
  | _, _, n + 1, .cons r t => .cons r (Vals.take n t)
theorem Vals.drop : ∀ {xs : List V} {us : List Value} (n : Nat), Vals xs us → Vals (xs.drop n) (us.drop n)
  | _, _, 0, r => r
  | _, _, _ + 1, .nil => .nil
  | _, _, n + 1, .cons _ t => Vals.drop n t
theorem Vals.none_of : ∀ {xs : List V} {us : List Value} {i : Nat}, Vals xs us → xs[i]? = none → us[i]? = none := fun {xs us i} r e => by
  have h1 := r.length
  have h2 : xs.length ≤ i := List.getElem?_eq_none_iff.mp e
  exact List.getElem?_eq_none_iff.mpr (by omega)

noncomputable def RelO : Option V → Option Value → Prop
  | some v, some u => RelV v u
  | none, none => True
  | _, _ => False
noncomputable def KV {κ : Type} : List (κ × V) → List (κ × Value) → Prop := Paired fun (p : κ × V) (q : κ × Value) => p.1 = q.1 ∧ RelV p.2 q.2

/-- a key of a dict (00_mix): an int or a text -/
noncomputable def kV : Key → V
  | .inl i => .int i
  | .inr x => .str x

/-- what stands at a tracked address -/
inductive HO where
  /-- a list -/
  | lst (xs : List V)
  /-- a tuple (never changes) -/
  | tup (xs : List V)
  /-- a dict whose keys are ints and texts; one whose keys are tuples of ints and texts (the empty one is both) -/
  | dK (kvs : List (Key × V)) | dT (kvs : List (List Key × V))
  /-- a set of ints: its members, its size -/
  | set (S : Int → Bool) (n : Nat)
  /-- an instance of the class at C, its dict at dx, its attributes -/
  | ins (C dx : Addr) (fs : List (Str × V))
  /-- the dict of the instance at x -/
  | own (x : Addr)
  /-- the dict of an exception -/
  | xd (fs : List (Str × V))
  /-- a bound method, f of x -/
  | met (f x : Addr)
  /-- a range object lo, lo + 1, .. below hi -/
  | rng (lo hi : Int)
  /-- a thing that is known to the object (the script; a dict while a loop walks it): read, never written while it is so -/
  | frz (o : Obj) (u : HO)
  /-- a code object's table -/
  | tbl (ps : Array Value)
  /-- any other thing, by what is true of its one object (a def of one's own: SetO a S n := HO.ext fun h => ..) -/
  | ext (φ : Heap → Prop)

noncomputable abbrev Hp := Addr → Option HO
noncomputable def upd (H : Hp) (a : Addr) (o : HO) : Hp := fun b => if b = a then some o else H b
theorem upd_same {H : Hp} {a : Addr} {o : HO} : upd H a o a = some o := by unfold upd; rw [if_pos rfl]
theorem upd_ne {H : Hp} {a b : Addr} {o : HO} (h : b ≠ a) : upd H a o b = H b := by unfold upd; rw [if_neg h]
/-- two objects of different content stand apart -/
theorem ne_of {H : Hp} {a b : Addr} {o u : HO} (h : H a = some o) (h' : H b = some u) (d : o ≠ u) : a ≠ b := by
  intro e; subst e; rw [h] at h'; exact d (Option.some.inj h')
theorem ne_of_none {H : Hp} {a b : Addr} {o : HO} (h : H a = some o) (h' : H b = none) : a ≠ b := by
  intro e; subst e; rw [h] at h'; cases h'

section
variable (P : Program) (w : World)
noncomputable def ObjOk (H : Hp) (h : Heap) (a : Addr) : HO → Prop
  | .lst xs => xs.length ≤ sizeLine ∧ ∃ (its : List Value) (n : Nat), Vals xs its ∧ h.get? a = some { cls := .type "list", data := .seq its.toArray n }
  | .tup xs => xs.length ≤ sizeLine ∧ ∃ its : List Value, Vals xs its ∧ IsTup h a its.toArray
  | .dK kvs => kvs.length ≤ sizeLine ∧ (a == sysModules) = false ∧ ∃ vs, KV kvs vs ∧ h.DictOf (mixKind P w) a vs
  | .dT kvs => kvs.length ≤ sizeLine ∧ (a == sysModules) = false ∧ ∃ xs : List (List Key × Addr × Value),
      Paired (fun (p : List Key × V) (q : List Key × Addr × Value) => p.1 = q.1 ∧ H q.2.1 = some (.tup (p.1.map kV)) ∧ RelV p.2 q.2.2) kvs xs ∧
      ∃ o es ep, h.get? a = some o ∧ o.ExactDict ∧ o.data = .dict es ep ∧ es.toList = xs.map (entryOfKey (tupleKind (mixKind P w))) ∧ (xs.map (·.1)).Nodup
  | .set S n => h.SetOf (intKind P w) a S n
  | .ins C dx fs => H dx = some (.own a) ∧ fs.length ≤ 1000 ∧ dx ≠ a ∧ h.get? a = some (PySem.W.instObj C dx) ∧
      ∃ mA, h.Ns1 dx mA ∧ (∀ f, RelO (fs.lookup f) (mA f)) ∧ PySem.Within mA (fs.map (·.1))
  | .own _ => ∃ o, h.get? a = some o
  | .xd fs => ∃ mA, h.Ns1 a mA ∧ ∀ f, RelO (fs.lookup f) (mA f)
  | .rng lo hi => ∃ t u v, h.get? a = some { cls := .type "range", data := .fields #[.int lo t, .int hi u, .int 1 v] }
  | .frz o u => h.get? a = some o ∧ ObjOk H h a u
  | .tbl ps => h.get? a = some { cls := .none, data := .fields ps }
  | .met f x => h.get? a = some (PySem.W.methodObj (.ref f) (.ref x))
  | .ext φ => φ h ∧ (∃ o, h.get? a = some o) ∧ ∀ h1 h2 : Heap, φ h1 → (∀ o, h1.get? a = some o → h2.get? a = some o) → φ h2
/-- the abstract heap is held -/
noncomputable def HOk (H : Hp) (h : Heap) : Prop := ∀ a o, H a = some o → ObjOk P w H h a o
end

section
variable {P : Program} {w : World} {H H' : Hp} {h h' : Heap} {a : Addr} {o : HO}
theorem ObjOk.lt (x : ObjOk P w H h a o) : a < h.objs.size := by
  cases o with
  | lst xs => obtain ⟨_, _, _, _, e⟩ := x; exact Heap.lt_size e
  | tup xs => obtain ⟨_, _, _, p⟩ := x; exact p.lt
  | dK kvs => obtain ⟨_, _, _, _, o, _, _, e, _⟩ := x; exact Heap.lt_size e
  | dT kvs => obtain ⟨_, _, _, _, o, _, _, e, _⟩ := x; exact Heap.lt_size e
  | set S n => obtain ⟨o, _, _, _, e, _⟩ := x; exact Heap.lt_size e
  | ins C dx fs => obtain ⟨_, _, _, e, _⟩ := x; exact Heap.lt_size e
  | own y => obtain ⟨_, e⟩ := x; exact Heap.lt_size e
  | xd fs => obtain ⟨_, ⟨_, _, _, e, _⟩, _⟩ := x; exact Heap.lt_size e
  | rng lo hi => obtain ⟨_, _, _, e⟩ := x; exact Heap.lt_size e
  | frz ob u => obtain ⟨e, _⟩ := x; exact Heap.lt_size e
  | tbl ps => exact Heap.lt_size (show h.get? a = some _ from x)
  | met f y => exact Heap.lt_size (show h.get? a = some _ from x)
  | ext φ => obtain ⟨_, ⟨_, e⟩, _⟩ := x; exact Heap.lt_size e
theorem Paired.mapP {α β : Type} {F G : α → β → Prop} : ∀ {l₁ : List α} {l₂ : List β}, Paired F l₁ l₂ → (∀ a b, F a b → G a b) → Paired G l₁ l₂
  | _, _, .nil, _ => .nil
  | _, _, .cons r t, f => .cons (f _ _ r) (Paired.mapP t f)
theorem Paired.imp' {α β : Type} {F G : α → β → Prop} (f : ∀ a b, F a b → G a b) {l₁ : List α} {l₂ : List β} (r : Paired F l₁ l₂) : Paired G l₁ l₂ := Paired.mapP r f
/-- what an object's description leans on: its own object, its own dict, the tuples -/
theorem ObjOk.stay (x : ObjOk P w H h a o) (k : ∀ b u, (b = a ∨ H b = some (.own a)) → h.get? b = some u → h'.get? b = some u)
    (ho : ∀ b, H b = some (.own a) → H' b = some (.own a)) (ht : ∀ b xs, H b = some (.tup xs) → H' b = some (.tup xs)) : ObjOk P w H' h' a o := by
  induction o with
  | lst xs => obtain ⟨z, its, n, r, e⟩ := x; exact ⟨z, its, n, r, k _ _ (.inl rfl) e⟩
  | tup xs => obtain ⟨z, its, r, ob, e, c⟩ := x; exact ⟨z, its, r, ob, k _ _ (.inl rfl) e, c⟩
  | dK kvs => obtain ⟨z, y, vs, r, ob, es, ep, e, c⟩ := x; exact ⟨z, y, vs, r, ob, es, ep, k _ _ (.inl rfl) e, c⟩
  | dT kvs =>
    obtain ⟨z, y, xs, r, ob, es, ep, e, c⟩ := x
    exact ⟨z, y, xs, Paired.mapP r fun p q z => ⟨z.1, ht _ _ z.2.1, z.2.2⟩, ob, es, ep, k _ _ (.inl rfl) e, c⟩
  | set S n => obtain ⟨ob, es, ep, t, e, c⟩ := x; exact ⟨ob, es, ep, t, k _ _ (.inl rfl) e, c⟩
  | ins C dx fs =>
    obtain ⟨d, z, ne, e, mA, ⟨od, es, ep, e2, c⟩, r⟩ := x
    exact ⟨ho _ d, z, ne, k _ _ (.inl rfl) e, mA, ⟨od, es, ep, k _ _ (.inr d) e2, c⟩, r⟩
  | own y => obtain ⟨ob, e⟩ := x; exact ⟨ob, k _ _ (.inl rfl) e⟩
  | xd fs => obtain ⟨mA, ⟨od, es, ep, e, c⟩, r⟩ := x; exact ⟨mA, ⟨od, es, ep, k _ _ (.inl rfl) e, c⟩, r⟩
  | rng lo hi => obtain ⟨t, u, v, e⟩ := x; exact ⟨t, u, v, k _ _ (.inl rfl) e⟩
  | frz ob u ih => obtain ⟨e, q⟩ := x; exact ⟨k _ _ (.inl rfl) e, ih q⟩
  | tbl ps =>
    have e : h.get? a = some { cls := .none, data := .fields ps } := x
    show h'.get? a = some { cls := .none, data := .fields ps }
    exact k a _ (.inl rfl) e
  | met f y =>
    have e : h.get? a = some (PySem.W.methodObj (.ref f) (.ref y)) := x
    show h'.get? a = some (PySem.W.methodObj (.ref f) (.ref y))
    exact k a _ (.inl rfl) e
  | ext φ => obtain ⟨p, ⟨o, e⟩, st⟩ := x; exact ⟨st _ _ p fun o q => k _ _ (.inl rfl) q, ⟨o, k _ _ (.inl rfl) e⟩, st⟩
theorem HOk.lt (x : HOk P w H h) (e : H a = some o) : a < h.objs.size := (x a o e).lt
theorem HOk.fresh (x : HOk P w H h) (e : h.objs.size ≤ a) : H a = none := by
  cases q : H a with
  | none => rfl
  | some u => exact absurd (Nat.lt_of_lt_of_le (x.lt q) e) (Nat.lt_irrefl _)
/-- every object of the heap is kept -/
theorem HOk.kept (x : HOk P w H h) (k : ∀ b u, h.get? b = some u → h'.get? b = some u) : HOk P w H h' := fun a o e =>
  (x a o e).stay (fun b u _ q => k b u q) (fun _ q => q) fun _ _ q => q
/-- a new object is laid and tracked -/
theorem HOk.laid (x : HOk P w H h) (k : ∀ b u, h.get? b = some u → h'.get? b = some u) (hp : h.objs.size ≤ a) (new : ObjOk P w (upd H a o) h' a o) : HOk P w (upd H a o) h' := fun b u e => by
  have hn := x.fresh hp
  by_cases hb : b = a
  · subst hb; rw [upd_same] at e; cases e; exact new
  · rw [upd_ne hb] at e
    exact (x b u e).stay (fun c v _ q => k c v q) (fun c q => by rw [upd_ne (ne_of_none q hn)]; exact q) fun c xs q => by rw [upd_ne (ne_of_none q hn)]; exact q
end

/-- what may be read as u: it is u, or a known u -/
noncomputable def Rd (H : Hp) (a : Addr) (u : HO) : Prop := H a = some u ∨ ∃ o, H a = some (.frz o u)
theorem Rd.of {H : Hp} {a : Addr} {u : HO} (h : H a = some u) : Rd H a u := .inl h
theorem Rd.ok {P : Program} {w : World} {H : Hp} {h : Heap} {a : Addr} {u : HO} (r : Rd H a u) (x : HOk P w H h) : ObjOk P w H h a u := by
  rcases r with r | ⟨o, r⟩
  · exact x a u r
  · obtain ⟨_, q⟩ := x a _ r
    exact q
/-- what may be written -/
noncomputable def Mut : Option HO → Prop
  | some (.lst _) => True
  | some (.dK _) => True
  | some (.dT _) => True
  | some (.set _ _) => True
  | some (.ins _ _ _) => True
  | some (.ext _) => True
  | _ => False
section
variable {P : Program} {w : World} {H : Hp} {h h' : Heap} {x e : Addr} {o' : HO}
/-- the object at e is changed: x itself, or the dict of the instance x -/
theorem HOk.write (ok : HOk P w H h) (mu : Mut (H x)) (he : e = x ∨ H e = some (.own x)) (k : ∀ b u, b ≠ e → h.get? b = some u → h'.get? b = some u) (heo : ∃ u, h'.get? e = some u)
    (new : ObjOk P w (upd H x o') h' x o') : HOk P w (upd H x o') h' := fun b u q => by
  have nown : ∀ c y, H c = some (.own y) → c ≠ x := fun c y r z => by subst z; rw [r] at mu; exact mu
  have ntup : ∀ c xs, H c = some (.tup xs) → c ≠ x := fun c xs r z => by subst z; rw [r] at mu; exact mu
  by_cases hb : b = x
  · subst hb; rw [upd_same] at q; cases q; exact new
  · rw [upd_ne hb] at q
    by_cases hbe : b = e
    · have q' : H b = some (.own x) := by
        rcases he with z | z
        · exact absurd (hbe.trans z) hb
        · rw [hbe]; exact z
      rw [q] at q'; cases q'
      obtain ⟨v, hv⟩ := heo
      exact ⟨v, by rw [hbe]; exact hv⟩
    · refine (ok b u q).stay (fun c v hc r => k c v ?_ r) (fun c r => by rw [upd_ne (nown c b r)]; exact r) fun c xs r => by rw [upd_ne (ntup c xs r)]; exact r
      rcases hc with rfl | hc
      · exact hbe
      · rintro rfl
        rcases he with z | z
        · exact nown c b hc z
        · rw [hc] at z; cases z; exact hb rfl
end

/-! ### kept unless tracked; of the frames at fs (the callers') the slots may change (an exception that passes writes there); of the records at ex (iterators) nothing is said -/
structure Un (fs ex : List Addr) (H H' : Hp) (h h' : Heap) : Prop where
  keep : ∀ b o, h.get? b = some o → H b = none → b ∉ fs → b ∉ ex → h'.get? b = some o
  slot : ∀ b o, h.get? b = some o → H b = none → b ∈ fs → b ∉ ex → ∃ sl, h'.get? b = some { o with slots := sl }
  free : ∀ b o, h.get? b = some o → H b = none → b ∉ ex → H' b = none
  there : ∀ b o, h.get? b = some o → b ∉ ex → ∃ o', h'.get? b = some o'
  tups : ∀ b xs, H b = some (.tup xs) → H' b = some (.tup xs)
  frzs : ∀ b o u, H b = some (.frz o u) → H' b = some (.frz o u)
  tbls : ∀ b ps, H b = some (.tbl ps) → ∃ more, H' b = some (.tbl (ps ++ more))
section
variable {fs fs' ex ex' : List Addr} {H H1 H2 : Hp} {h h1 h2 h' : Heap} {a x e : Addr} {o : HO}
theorem Un.any (u : Un fs ex H H1 h h1) {b : Addr} {ob : Obj} (q : h.get? b = some ob) (n : H b = none) (hx : b ∉ ex) : ∃ sl, h1.get? b = some { ob with slots := sl } := by
  by_cases hb : b ∈ fs
  · exact u.slot b ob q n hb hx
  · exact ⟨ob.slots, u.keep b ob q n hb hx⟩
theorem Un.trans (a : Un fs ex H H1 h h1) (b : Un fs ex H1 H2 h1 h2) : Un fs ex H H2 h h2 where
  keep := fun c ob q n hc hx => b.keep c ob (a.keep c ob q n hc hx) (a.free c ob q n hx) hc hx
  slot := fun c ob q n hc hx => by
    obtain ⟨sl, e1⟩ := a.slot c ob q n hc hx
    obtain ⟨sl', e2⟩ := b.slot c _ e1 (a.free c ob q n hx) hc hx
    exact ⟨sl', e2⟩
  free := fun c ob q n hx => by
    obtain ⟨o', e1⟩ := a.there c ob q hx
    exact b.free c o' e1 (a.free c ob q n hx) hx
  there := fun c ob q hx => by
    obtain ⟨o', e1⟩ := a.there c ob q hx
    exact b.there c o' e1 hx
  tups := fun c xs q => b.tups c xs (a.tups c xs q)
  frzs := fun c ob xs q => b.frzs c ob xs (a.frzs c ob xs q)
  tbls := fun c ps q => by
    obtain ⟨m1, e1⟩ := a.tbls c ps q
    obtain ⟨m2, e2⟩ := b.tbls c _ e1
    exact ⟨m1 ++ m2, by rw [e2, Array.append_assoc]⟩
theorem Un.kept (k : ∀ b u, h.get? b = some u → h'.get? b = some u) : Un fs ex H H h h' :=
  ⟨fun b ob q _ _ _ => k b ob q, fun b ob q _ _ _ => ⟨ob.slots, k b ob q⟩, fun _ _ _ n _ => n, fun b ob q _ => ⟨ob, k b ob q⟩, fun _ _ q => q, fun _ _ _ q => q, fun _ ps q => ⟨#[], by rw [q]; simp⟩⟩
theorem Un.refl : Un fs ex H H h h := Un.kept fun _ _ q => q
theorem Un.laid (k : ∀ b u, h.get? b = some u → h'.get? b = some u) (hp : h.objs.size ≤ a) (hn : H a = none) : Un fs ex H (upd H a o) h h' where
  keep := fun b u q _ _ _ => k b u q
  slot := fun b u q _ _ _ => ⟨u.slots, k b u q⟩
  free := fun b u q n _ => by rw [upd_ne (Nat.ne_of_lt (Nat.lt_of_lt_of_le (Heap.lt_size q) hp))]; exact n
  there := fun b u q _ => ⟨u, k b u q⟩
  tups := fun b xs q => by rw [upd_ne (ne_of_none q hn)]; exact q
  frzs := fun b u xs q => by rw [upd_ne (ne_of_none q hn)]; exact q
  tbls := fun b ps q => ⟨#[], by rw [upd_ne (ne_of_none q hn), q]; simp⟩
theorem Un.write (mu : Mut (H x)) (he : e = x ∨ H e = some (.own x)) (k : ∀ b u, b ≠ e → h.get? b = some u → h'.get? b = some u) (heo : ∃ u, h'.get? e = some u) : Un fs ex H (upd H x o) h h' := by
  have hx : ∀ b, H b = none → b ≠ x := fun b n z => by subst z; rw [n] at mu; exact mu
  have hb : ∀ b, H b = none → b ≠ e := fun b n z => by
    subst z
    rcases he with r | r
    · exact hx b n r
    · rw [n] at r; cases r
  have hm : ∀ b u, H b = some u → ¬ Mut (some u) → b ≠ x := fun b u q nm z => by subst z; rw [q] at mu; exact nm mu
  refine ⟨fun b u q n _ _ => k b u (hb b n) q, fun b u q n _ _ => ⟨u.slots, k b u (hb b n) q⟩, fun b u q n _ => by rw [upd_ne (hx b n)]; exact n, fun b u q _ => ?_,
    fun b xs q => by rw [upd_ne (hm b _ q fun z => z)]; exact q, fun b u xs q => by rw [upd_ne (hm b _ q fun z => z)]; exact q, fun b ps q => ⟨#[], by rw [upd_ne (hm b _ q fun z => z), q]; simp⟩⟩
  by_cases hbe : b = e
  · subst hbe; exact heo
  · exact ⟨u, k b u hbe q⟩
theorem Un.mono (u : Un fs ex H H1 h h1) (hs : ∀ b ∈ fs, b ∈ fs') (hx : ∀ b ∈ ex, b ∈ ex') : Un fs' ex' H H1 h h1 :=
  ⟨fun b ob q n hb he => u.keep b ob q n (fun z => hb (hs b z)) fun z => he (hx b z), fun _ _ q n _ he => u.any q n fun z => he (hx _ z), fun b ob q n he => u.free b ob q n fun z => he (hx b z), fun b ob q he => u.there b ob q fun z => he (hx b z), u.tups, u.frzs, u.tbls⟩
end

/-! ### the heap without what is tracked -/
noncomputable def trk (h : Heap) (H : Hp) : List Addr := (List.range h.objs.size).filter fun a => (H a).isSome
noncomputable def hidT (h : Heap) (H : Hp) : Heap := PySem.W.hideAll h (trk h H)
theorem hidT_size (h : Heap) (H : Hp) : (hidT h H).objs.size = h.objs.size := PySem.W.hideAll_size _ _
theorem hidT_get {h : Heap} {H : Hp} {b : Addr} {o : Obj} (e : h.get? b = some o) (n : H b = none) : (hidT h H).get? b = some o :=
  PySem.W.hideAll_get _ e fun hm => by
    have q : (H b).isSome = true := (List.mem_filter.mp hm).2
    rw [n] at q; simp at q
theorem of_hidT {h : Heap} {H : Hp} {b : Addr} {o : Obj} (e : (hidT h H).get? b = some o) : h.get? b = some o ∧ H b = none := by
  have e' : h.get? b = some o := PySem.W.of_hideAll (trk h H) e
  refine ⟨e', ?_⟩
  cases q : H b with
  | none => rfl
  | some x =>
    have hm : b ∈ trk h H := List.mem_filter.mpr ⟨List.mem_range.mpr (Heap.lt_size e'), by simp [q]⟩
    have z : (hidT h H).get? b = none := PySem.W.hideAll_none (trk h H) hm
    rw [z] at e; cases e

/-! ### OpenK's ledger, filled with every new object but one -/
noncomputable def allNews (g h : Heap) (L : Addr) : List (Addr × Obj) := (List.range h.objs.size).filterMap fun a => if a = L ∨ (g.get? a).isSome = true then none else (h.get? a).map fun o => (a, o)
noncomputable def rest (g h : Heap) (L d : Addr) : List (Addr × Obj) := (allNews g h L).filter fun p => decide (p.1 ≠ d)
end L2

namespace L2
open PySem PySem.Spec PyProof.Rows

/-- the module's facts, over the base: the heap at the law's entry without what is tracked there -/
structure Mod (K : PySem.W.Frag) (mg : Str → Option Value) (base : Heap) : Prop where
  kin : K.In base
  glob : base.Ns mainGlobals mg
  blt : ∃ mb, base.Ns builtinsNs mb ∧ ∀ x : Str, x ≠ "__name__" → mb x = bootBuiltins x
  nolimit : base.NoLimit

/-- the context: a def's body (or a comprehension's block) running. base: fixed through the whole law; s₀, H₀: the entry; outer: the frames whose slots others may change (a def's callers); stack: all frames that run;
   ex: iterators that were made ahead of the entry and are walked here (a comprehension's); fn: the names whose cells were made at the entry (a def: all; a comprehension's block: its own); calm: not within an except suite; pn: pins that every state bears; xe: what is wanted of an exception that leaves the code -/
structure Cx where
  prog : Program
  w : World
  K : PySem.W.Frag
  mg : Str → Option Value
  base : Heap
  A : Around
  N : List Str
  s₀ : Shared
  H₀ : Hp
  env : Env
  outer : List Env
  stack : List Env
  ex : List Addr
  fn : Str → Bool
  calm : Bool
  pn : List (Addr × Obj)
  xe : Value → Shared → Prop
/-- the callers' frames -/
noncomputable def frs (l : List Env) : List Addr := l.filterMap (·.frame)
noncomputable abbrev Cx.fs (X : Cx) : List Addr := frs X.outer

noncomputable def Vis (sc : Scope) (x : Str) : Prop := sc.names.lookup x = some .local ∨ sc.names.lookup x = some .cell ∨ sc.names.lookup x = some .free
noncomputable def Loc (sc : Scope) (x : Str) : Prop := sc.names.lookup x = some .local ∨ sc.names.lookup x = some .cell
noncomputable def Look (env : Env) (h : Heap) (m : Str → Option Value) (x : Str) (u : Value) : Prop :=
  (env.kindOf x = some .local ∧ m x = some u) ∨ ((env.kindOf x = some .cell ∨ env.kindOf x = some .free) ∧ ∃ c, env.cells.lookup x = some c ∧ h.IsCell c (some u))

structure Cx.Ok (X : Cx) : Prop where
  mod : Mod X.K X.mg X.base
  kind : X.env.scope.kind = .function
  glob : X.env.globals = mainGlobals
  blt : X.env.builtins = builtinsNs
  above : X.s₀.heap.objs.size ≤ X.env.locals
  inj : ∀ x y c, X.env.cells.lookup x = some c → X.env.cells.lookup y = some c → x = y
  has : ∀ x, (X.env.kindOf x = some .cell ∨ X.env.kindOf x = some .free) → ∃ c, X.env.cells.lookup x = some c
  cab : ∀ x c, X.fn x = true → X.env.cells.lookup x = some c → X.s₀.heap.objs.size ≤ c
  hd : X.calm = true → X.A.handled = none
  frames : X.A.frames = some X.stack
  stk : X.stack = X.outer ∨ (X.stack = X.env :: X.outer ∧ X.env.frame = some X.env.locals)
  exf : ∀ b ∈ X.ex, b ≠ X.env.locals ∧ ∀ x c, X.env.cells.lookup x = some c → c ≠ b
  bs : ∀ b o, X.base.get? b = some o → X.s₀.heap.get? b = some o ∧ X.H₀ b = none
  bsz : X.base.objs.size ≤ X.s₀.heap.objs.size
  noex : ∀ b o, X.base.get? b = some o → b ∉ X.ex
  exfs : ∀ b ∈ X.ex, b ∉ X.fs
  funs : X.s₀.heap.FunFrames X.base X.outer
  frf : ∀ b ∈ X.fs, X.H₀ b = none

structure Inv (X : Cx) (pins : List (Addr × Obj)) (σ : List (Option V)) (H : Hp) (s : Shared) : Prop where
  ok : X.Ok
  os : s.os = X.s₀.os
  bare : AllBare s.gens
  base : Un X.fs X.ex X.H₀ H X.s₀.heap s.heap
  loc : ∃ m, s.heap.Ns X.env.locals m ∧ ∀ (i : Nat) (x : Str) (v : V), X.N[i]? = some x → σ[i]? = some (some v) → Vis X.env.scope x → ∃ u, RelV v u ∧ Look X.env s.heap m x u
  cell : ∀ x c, X.env.cells.lookup x = some c → ∃ v, s.heap.IsCell c v
  free : H X.env.locals = none
  freeC : ∀ x c, X.env.cells.lookup x = some c → H c = none
  pin : ∀ p ∈ X.pn ++ pins, s.heap.get? p.1 = some p.2 ∧ H p.1 = none ∧ p.1 ≠ X.env.locals ∧ p.1 ∉ X.fs ∧ ∀ v, p.2.data ≠ .cell v
  hok : HOk X.prog X.w H s.heap
  len : σ.length = X.N.length

section
variable {X : Cx} {pins : List (Addr × Obj)} {σ : List (Option V)} {H H' : Hp} {s : Shared} {h' : Heap}

theorem Cx.Ok.nofr (ok : X.Ok) {b : Addr} {o : Obj} (e : X.base.get? b = some o) : b ∉ X.fs := fun hb => by
  have := (ok.funs.mem hb).1
  rw [e] at this; cases this
theorem Inv.bs (I : Inv X pins σ H s) : ∀ b o, X.base.get? b = some o → s.heap.get? b = some o ∧ H b = none := fun b o e =>
  ⟨I.base.keep b o (I.ok.bs b o e).1 (I.ok.bs b o e).2 (I.ok.nofr e) (I.ok.noex b o e), I.base.free b o (I.ok.bs b o e).1 (I.ok.bs b o e).2 (I.ok.noex b o e)⟩
theorem Inv.bk (I : Inv X pins σ H s) : ∀ b o, X.base.get? b = some o → s.heap.get? b = some o := fun b o e => (I.bs b o e).1
theorem Inv.mod (I : Inv X pins σ H s) : Mod X.K X.mg X.base := I.ok.mod
theorem Inv.kIn (I : Inv X pins σ H s) : X.K.In s.heap := I.ok.mod.kin.keeps I.bk
theorem Inv.nolimit (I : Inv X pins σ H s) : s.heap.NoLimit := I.ok.mod.nolimit.keeps I.bk
theorem Inv.lt (I : Inv X pins σ H s) : X.env.locals < s.heap.objs.size := let ⟨_, hn, _⟩ := I.loc; hn.lt
theorem Inv.sz (I : Inv X pins σ H s) : X.s₀.heap.objs.size ≤ s.heap.objs.size := Nat.le_trans I.ok.above (Nat.le_of_lt I.lt)
theorem Inv.nofs (I : Inv X pins σ H s) {a : Addr} (h : s.heap.objs.size ≤ a) : a ∉ X.fs := fun hb => by
  obtain ⟨_, o, ho, _⟩ := I.ok.funs.mem hb
  exact absurd (Nat.lt_of_lt_of_le (Heap.lt_size ho) (Nat.le_trans I.sz h)) (Nat.lt_irrefl _)
theorem Inv.cne (I : Inv X pins σ H s) : ∀ x c, X.env.cells.lookup x = some c → c ≠ X.env.locals := fun x c e z => by
  obtain ⟨v, o, ho, hd⟩ := I.cell x c e
  obtain ⟨m, ⟨o', es, ep, ho', hd', _⟩, _⟩ := I.loc
  rw [z, ho'] at ho; cases ho; rw [hd'] at hd; cases hd
theorem Inv.funs (I : Inv X pins σ H s) : s.heap.FunFrames X.base X.outer := by
  have all : ∀ (l : List Env), (∀ b ∈ frs l, b ∈ X.fs) → X.s₀.heap.FunFrames X.base l → s.heap.FunFrames X.base l := by
    intro l
    induction l with
    | nil => intro _ _; trivial
    | cons env r ih =>
      intro hs hl
      obtain ⟨hk, ⟨L, o, hf, hn, ho, hd⟩, hr⟩ := hl
      have hL : L ∈ X.fs := hs L (by unfold frs; rw [List.filterMap_cons, hf]; exact List.mem_cons_self)
      obtain ⟨sl, e⟩ := I.base.slot L o ho (I.ok.frf L hL) hL fun z => I.ok.exfs L z hL
      exact ⟨hk, ⟨L, _, hf, hn, e, hd⟩, ih (fun b hb => hs b (by unfold frs; rw [List.filterMap_cons, hf]; exact List.mem_cons_of_mem _ hb)) hr⟩
  exact all X.outer (fun _ hb => hb) I.ok.funs

/-- the frames that run, for a call -/
theorem Inv.stack (I : Inv X pins σ H s) : s.heap.FunFrames X.base X.stack := by
  rcases I.ok.stk with e | ⟨e, hf⟩
  · rw [e]; exact I.funs
  · rw [e]
    obtain ⟨m, hn, _⟩ := I.loc
    refine .cons (by rw [I.ok.kind]; decide) hf hn ?_ I.funs
    exact Heap.get?_none_of_le (Nat.le_trans I.ok.bsz I.ok.above)
theorem Inv.stkSub (I : Inv X pins σ H s) : ∀ b ∈ frs X.stack, b ∈ X.env.locals :: X.fs := fun b hb => by
  rcases I.ok.stk with e | ⟨e, hf⟩
  · rw [e] at hb; exact List.mem_cons_of_mem _ hb
  · rw [e] at hb
    unfold frs at hb
    rw [List.filterMap_cons, hf] at hb
    exact hb
theorem Inv.stkFree (I : Inv X pins σ H s) : ∀ b ∈ frs X.stack, H b = none := fun b hb => by
  rcases List.mem_cons.mp (I.stkSub b hb) with e | hb
  · rw [e]; exact I.free
  · obtain ⟨_, o, ho, _⟩ := I.ok.funs.mem hb
    exact I.base.free b o ho (I.ok.frf b hb) fun z => I.ok.exfs b z hb

/-- THE STEP: the untracked objects but the frame and the records at ch are kept (the callers' frames up to slots), the frame's map is kept, the new abstract heap is held -/
theorem Inv.step {g' : Array GenState} {t' : Nat} {d' : Drawn} {ch : List Addr} (I : Inv X pins σ H s)
    (hch : ∀ b ∈ ch, (b ∈ X.ex ∨ X.s₀.heap.objs.size ≤ b) ∧ b ≠ X.env.locals ∧ (∀ x c, X.env.cells.lookup x = some c → c ≠ b) ∧ ∀ p ∈ X.pn ++ pins, p.1 ≠ b)
    (keep : ∀ b o, b ≠ X.env.locals → b ∉ X.fs → b ∉ ch → s.heap.get? b = some o → H b = none → h'.get? b = some o)
    (slot : ∀ b o, b ≠ X.env.locals → b ∈ X.fs → b ∉ ch → s.heap.get? b = some o → H b = none → ∃ sl, h'.get? b = some { o with slots := sl }) (free : ∀ b o, b ∉ ch → s.heap.get? b = some o → H b = none → H' b = none)
    (there : ∀ b o, b ∉ ch → s.heap.get? b = some o → ∃ o', h'.get? b = some o')
    (tups : ∀ b xs, H b = some (.tup xs) → H' b = some (.tup xs)) (frzs : ∀ b o u, H b = some (.frz o u) → H' b = some (.frz o u)) (tbls : ∀ b ps, H b = some (.tbl ps) → ∃ more, H' b = some (.tbl (ps ++ more)))
    (ns : ∀ m, s.heap.Ns X.env.locals m → h'.Ns X.env.locals m) (hok : HOk X.prog X.w H' h') (hg : AllBare g') :
    Inv X pins σ H' { s with heap := h', gens := g', drawn := d', toks := t' } := by
  have neL : ∀ b o, X.s₀.heap.get? b = some o → b ≠ X.env.locals := fun b o e => Nat.ne_of_lt (Nat.lt_of_lt_of_le (Heap.lt_size e) I.ok.above)
  have neC : ∀ b o, X.s₀.heap.get? b = some o → b ∉ X.ex → b ∉ ch := fun b o e hx hb => by
    rcases (hch b hb).1 with z | z
    · exact hx z
    · exact absurd (Nat.lt_of_lt_of_le (Heap.lt_size e) z) (Nat.lt_irrefl _)
  have cellK : ∀ x c, X.env.cells.lookup x = some c → ∀ v, s.heap.IsCell c v → h'.IsCell c v := fun x c e v ⟨o, ho, hd⟩ => by
    have nch : c ∉ ch := fun z => (hch c z).2.2.1 x c e rfl
    by_cases hc : c ∈ X.fs
    · obtain ⟨sl, q⟩ := slot c o (I.cne x c e) hc nch ho (I.freeC x c e)
      exact ⟨_, q, hd⟩
    · exact ⟨o, keep c o (I.cne x c e) hc nch ho (I.freeC x c e), hd⟩
  refine ⟨I.ok, I.os, hg, ⟨fun b o e n hb hx => ?_, fun b o e n hb hx => ?_, fun b o e n hx => ?_, fun b o e hx => ?_, fun b xs e => tups b xs (I.base.tups b xs e), fun b o xs e => frzs b o xs (I.base.frzs b o xs e), fun b ps e => ?_⟩, ?_, fun x c e => ?_, ?_, fun x c e => ?_, fun p hp => ?_, hok, I.len⟩
  · exact keep b o (neL b o e) hb (neC b o e hx) (I.base.keep b o e n hb hx) (I.base.free b o e n hx)
  · obtain ⟨sl, e1⟩ := I.base.slot b o e n hb hx
    obtain ⟨sl', e2⟩ := slot b _ (neL b o e) hb (neC b o e hx) e1 (I.base.free b o e n hx)
    exact ⟨sl', e2⟩
  · obtain ⟨o', e1⟩ := I.base.there b o e hx
    exact free b o' (neC b o e hx) e1 (I.base.free b o e n hx)
  · obtain ⟨o', e1⟩ := I.base.there b o e hx
    exact there b o' (neC b o e hx) e1
  · obtain ⟨m1, e1⟩ := I.base.tbls b ps e
    obtain ⟨m2, e2⟩ := tbls b _ e1
    exact ⟨m1 ++ m2, by rw [e2, Array.append_assoc]⟩
  · obtain ⟨m, hn, hl⟩ := I.loc
    refine ⟨m, ns m hn, fun i x v e1 e2 e3 => ?_⟩
    obtain ⟨u, r, l⟩ := hl i x v e1 e2 e3
    refine ⟨u, r, ?_⟩
    rcases l with l | ⟨k, c, e, z⟩
    · exact .inl l
    · exact .inr ⟨k, c, e, cellK x c e _ z⟩
  · obtain ⟨v, z⟩ := I.cell x c e
    exact ⟨v, cellK x c e v z⟩
  · obtain ⟨m, ⟨o, _, _, ho, _⟩, _⟩ := I.loc
    exact free _ o (fun z => (hch _ z).2.1 rfl) ho I.free
  · obtain ⟨v, o, ho, hd⟩ := I.cell x c e
    exact free c o (fun z => (hch c z).2.2.1 x c e rfl) ho (I.freeC x c e)
  · obtain ⟨e, n, ne, nf, d⟩ := I.pin p hp
    have nch : p.1 ∉ ch := fun z => (hch p.1 z).2.2.2 p hp rfl
    exact ⟨keep p.1 p.2 ne nf nch e n, free p.1 p.2 nch e n, ne, nf, d⟩
/-- .. where the frame's own object is kept too -/
theorem Inv.un {t' : Nat} (I : Inv X pins σ H s) (u : Un X.fs [] H H' s.heap h') (hok : HOk X.prog X.w H' h') : Inv X pins σ H' { s with heap := h', toks := t' } := by
  obtain ⟨m, ⟨o, es, ep, ho, r⟩, _⟩ := id I.loc
  obtain ⟨sl, hL⟩ := u.any ho I.free (by simp)
  exact I.step (g' := s.gens) (d' := s.drawn) (ch := []) (fun _ z => nomatch z) (fun b o _ hb _ e n => u.keep b o e n hb (by simp)) (fun b o _ hb _ e n => u.slot b o e n hb (by simp)) (fun b o _ e n => u.free b o e n (by simp)) (fun b o _ e => u.there b o e (by simp)) u.tups u.frzs u.tbls (fun m' hm => by
    obtain ⟨o', es', ep', ho', r'⟩ := hm
    rw [ho] at ho'; cases ho'
    exact ⟨_, es', ep', hL, r'⟩) hok I.bare
/-- behind a call (or a comprehension's block): the slots of this frame may have changed too, the records at ch may have turned -/
theorem Inv.call {g' : Array GenState} {t' : Nat} {d' : Drawn} {ch : List Addr} (I : Inv X pins σ H s) (u : Un (frs X.stack) ch H H' s.heap h') (hok : HOk X.prog X.w H' h') (hg : AllBare g')
    (hch : ∀ b ∈ ch, (b ∈ X.ex ∨ X.s₀.heap.objs.size ≤ b) ∧ b ≠ X.env.locals ∧ (∀ x c, X.env.cells.lookup x = some c → c ≠ b) ∧ ∀ p ∈ X.pn ++ pins, p.1 ≠ b) :
    Inv X pins σ H' { s with heap := h', gens := g', drawn := d', toks := t' } := by
  obtain ⟨m, ⟨o, es, ep, ho, r⟩, _⟩ := id I.loc
  obtain ⟨sl, hL⟩ := u.any ho I.free fun z => (hch _ z).2.1 rfl
  exact I.step (ch := ch) hch (fun b o hL hb hc e n => u.keep b o e n (fun z => (List.mem_cons.mp (I.stkSub b z)).elim hL hb) hc) (fun b o _ _ hc e n => u.any e n hc) (fun b o hc e n => u.free b o e n hc) (fun b o hc e => u.there b o e hc) u.tups u.frzs u.tbls (fun m' hm => by
    obtain ⟨o', es', ep', ho', r'⟩ := hm
    rw [ho] at ho'; cases ho'
    exact ⟨_, es', ep', hL, r'⟩) hok hg
/-- an untracked record of ours (an iterator) has turned -/
theorem Inv.turned {t' : Nat} {it : Addr} (I : Inv X pins σ H s) (k : ∀ b o, b ≠ it → s.heap.get? b = some o → h'.get? b = some o) (hn : H it = none) (hL : it ≠ X.env.locals)
    (h1 : it ∈ X.ex ∨ X.s₀.heap.objs.size ≤ it) (h2 : ∀ x c, X.env.cells.lookup x = some c → c ≠ it) (h3 : ∀ p ∈ X.pn ++ pins, p.1 ≠ it) : Inv X pins σ H { s with heap := h', toks := t' } := by
  have nit : ∀ b u, H b = some u → b ≠ it := fun b u e z => by rw [z, hn] at e; cases e
  refine I.step (g' := s.gens) (d' := s.drawn) (ch := [it]) (fun b hb => ?_) (fun b o _ _ hc e _ => k b o (fun z => hc (by simp [z])) e) (fun b o _ _ hc e _ => ⟨o.slots, k b o (fun z => hc (by simp [z])) e⟩) (fun _ _ _ _ n => n)
    (fun b o hc e => ⟨o, k b o (fun z => hc (by simp [z])) e⟩) (fun _ _ e => e) (fun _ _ _ e => e) (fun b ps e => ⟨#[], by rw [e]; simp⟩) (fun m hm => ?_) (fun b u e => ?_) I.bare
  · have e : b = it := by simpa using hb
    subst e
    exact ⟨h1, hL, h2, h3⟩
  · obtain ⟨o, es, ep, ho, r⟩ := hm
    exact ⟨o, es, ep, k _ o (Ne.symm hL) ho, r⟩
  · refine (I.hok b u e).stay (fun c v hc q => k c v ?_ q) (fun _ q => q) fun _ _ q => q
    rcases hc with z | z
    · rw [z]; exact nit b u e
    · exact nit c _ z
theorem Inv.tok (I : Inv X pins σ H s) (t : Nat) : Inv X pins σ H { s with toks := t } := I.un (h' := s.heap) (t' := t) Un.refl I.hok
/-- all objects kept -/
theorem Inv.kept {t' : Nat} (I : Inv X pins σ H s) (k : ∀ b u, s.heap.get? b = some u → h'.get? b = some u) : Inv X pins σ H { s with heap := h', toks := t' } := I.un (Un.kept k) (I.hok.kept k)
/-- a new object laid and tracked -/
theorem Inv.laid {a : Addr} {o : HO} {t' : Nat} (I : Inv X pins σ H s) (k : ∀ b u, s.heap.get? b = some u → h'.get? b = some u) (hp : s.heap.objs.size ≤ a) (new : ObjOk X.prog X.w (upd H a o) h' a o) :
    Inv X pins σ (upd H a o) { s with heap := h', toks := t' } := I.un (Un.laid k hp (I.hok.fresh hp)) (I.hok.laid k hp new)
/-- an object written -/
theorem Inv.write {x e : Addr} {o : HO} {t' : Nat} (I : Inv X pins σ H s) (mu : Mut (H x)) (he : e = x ∨ H e = some (.own x)) (k : ∀ b u, b ≠ e → s.heap.get? b = some u → h'.get? b = some u) (heo : ∃ u, h'.get? e = some u)
    (new : ObjOk X.prog X.w (upd H x o) h' x o) : Inv X pins σ (upd H x o) { s with heap := h', toks := t' } := I.un (Un.write mu he k heo) (I.hok.write mu he k heo new)
theorem Inv.pins_of {pins' : List (Addr × Obj)} (I : Inv X pins σ H s) (h : ∀ p ∈ pins', s.heap.get? p.1 = some p.2 ∧ H p.1 = none ∧ p.1 ≠ X.env.locals ∧ p.1 ∉ X.fs ∧ ∀ v, p.2.data ≠ .cell v) : Inv X pins' σ H s :=
  ⟨I.ok, I.os, I.bare, I.base, I.loc, I.cell, I.free, I.freeC, fun p hp => (List.mem_append.mp hp).elim (fun z => I.pin p (List.mem_append_left _ z)) (h p), I.hok, I.len⟩

theorem nodup_ix {N : List Str} (hN : N.Nodup) {i j : Nat} {x : Str} (a : N[i]? = some x) (b : N[j]? = some x) : i = j := by
  obtain ⟨h1, e1⟩ := List.getElem?_eq_some_iff.mp a
  obtain ⟨h2, e2⟩ := List.getElem?_eq_some_iff.mp b
  exact (List.getElem_inj hN).mp (e1.trans e2.symm)

/-- a name is stored; what changed -/
theorem store_ok2 {M : Model} {A : Around} {E : Value → Shared → Prop} {i : Nat} {x : Str} {v : V} {u : Value} {Q : Unit → Shared → Prop} (I : Inv X pins σ H s) (hN : X.N.Nodup) (hi : X.N[i]? = some x) (hx : Loc X.env.scope x) (r : RelV v u)
    (h : ∀ s', Inv X pins (σ.set i (some v)) H s' → (∃ a, Heap.SameBut a s.heap s'.heap ∧ (a = X.env.locals ∨ X.env.cells.lookup x = some a)) → Q () s') (hf : X.fn x = true ∨ X.env.scope.names.lookup x = some .local := by first | exact .inl rfl | exact .inr rfl | assumption) : wpAny M A (storeName X.env x u) Q E s := by
  obtain ⟨m, hn, hl⟩ := id I.loc
  have hcls : (X.env.scope.kind == .class || (X.env.scope.kind == .module && X.env.locals != X.env.globals)) = false := by rw [I.ok.kind]; rfl
  have hiσ : i < σ.length := by rw [I.len]; exact (List.getElem?_eq_some_iff.mp hi).1
  have cne := I.cne
  have tracked : ∀ {a : Addr} {h' : Heap}, (∃ o, s.heap.get? a = some o ∧ H a = none) → Heap.SameBut a s.heap h' → HOk X.prog X.w H h' := fun {a h'} ha hs b ob e => by
    obtain ⟨_, _, hfree⟩ := ha
    refine (I.hok b ob e).stay (fun c w' hc q => (hs.2 c ?_).trans q) (fun _ q => q) fun _ _ q => q
    rintro rfl
    rcases hc with rfl | hc
    · rw [hfree] at e; cases e
    · rw [hfree] at hc; cases hc
  rcases hx with hk | hk
  · refine wpAny_storeName_local hk hn (fun h' hn' hs => ?_) hcls
    obtain ⟨oL, _, _, hoL, _⟩ := id hn
    refine h _ ⟨I.ok, I.os, I.bare, ⟨fun b o e n hb hx => ?_, fun b o e n hb hx => ?_, I.base.free, fun b o e hx => ?_, I.base.tups, I.base.frzs, I.base.tbls⟩, ⟨_, hn', fun j y v' e1 e2 e3 => ?_⟩, fun y c e => ?_, I.free, I.freeC, fun p hp => ?_, tracked ⟨oL, hoL, I.free⟩ hs, by simpa using I.len⟩ ⟨_, hs, .inl rfl⟩
    · exact (hs.2 b (Nat.ne_of_lt (Nat.lt_of_lt_of_le (Heap.lt_size e) I.ok.above))).trans (I.base.keep b o e n hb hx)
    · obtain ⟨sl, e1⟩ := I.base.slot b o e n hb hx
      exact ⟨sl, (hs.2 b (Nat.ne_of_lt (Nat.lt_of_lt_of_le (Heap.lt_size e) I.ok.above))).trans e1⟩
    · obtain ⟨o', e1⟩ := I.base.there b o e hx
      exact ⟨o', (hs.2 b (Nat.ne_of_lt (Nat.lt_of_lt_of_le (Heap.lt_size e) I.ok.above))).trans e1⟩
    · by_cases hj : j = i
      · subst hj
        rw [hi] at e1; cases e1
        rw [List.getElem?_set_self hiσ] at e2
        cases e2
        exact ⟨u, r, .inl ⟨hk, by simp⟩⟩
      · rw [List.getElem?_set_ne (Ne.symm hj)] at e2
        obtain ⟨u', r', q⟩ := hl j y v' e1 e2 e3
        refine ⟨u', r', ?_⟩
        rcases q with ⟨k, e⟩ | ⟨k, c, e, z⟩
        · refine .inl ⟨k, ?_⟩
          have : y ≠ x := fun e => hj (nodup_ix hN e1 (e ▸ hi))
          simp [this, e]
        · exact .inr ⟨k, c, e, z.sameBut hs (cne y c e)⟩
    · obtain ⟨w', z⟩ := I.cell y c e
      exact ⟨w', z.sameBut hs (cne y c e)⟩
    · obtain ⟨e, n, ne, nf, d⟩ := I.pin p hp
      exact ⟨(hs.2 p.1 ne).trans e, n, ne, nf, d⟩
  · have hfn : X.fn x = true := by
      rcases hf with z | z
      · exact z
      · rw [z] at hk; cases hk
    obtain ⟨c, hc⟩ := I.ok.has x (.inl hk)
    obtain ⟨w', z⟩ := I.cell x c hc
    refine wpAny_storeName_cell I.ok.kind hk hc z (fun h' hc' hs => ?_)
    obtain ⟨oc, hoc, hocd⟩ := id z
    refine h { s with heap := h' } ⟨I.ok, I.os, I.bare, ⟨fun b o e n hb hx => ?_, fun b o e n hb hx => ?_, I.base.free, fun b o e hx => ?_, I.base.tups, I.base.frzs, I.base.tbls⟩, ⟨m, hn.sameBut hs (Ne.symm (cne x c hc)), fun j y v' e1 e2 e3 => ?_⟩, fun y c' e => ?_, I.free, I.freeC, fun p hp => ?_, tracked ⟨oc, hoc, I.freeC x c hc⟩ hs, by simpa using I.len⟩ ⟨c, hs, .inr hc⟩
    · exact (hs.2 b (Nat.ne_of_lt (Nat.lt_of_lt_of_le (Heap.lt_size e) (I.ok.cab x c hfn hc)))).trans (I.base.keep b o e n hb hx)
    · obtain ⟨sl, e1⟩ := I.base.slot b o e n hb hx
      exact ⟨sl, (hs.2 b (Nat.ne_of_lt (Nat.lt_of_lt_of_le (Heap.lt_size e) (I.ok.cab x c hfn hc)))).trans e1⟩
    · obtain ⟨o', e1⟩ := I.base.there b o e hx
      exact ⟨o', (hs.2 b (Nat.ne_of_lt (Nat.lt_of_lt_of_le (Heap.lt_size e) (I.ok.cab x c hfn hc)))).trans e1⟩
    · by_cases hj : j = i
      · subst hj
        rw [hi] at e1; cases e1
        rw [List.getElem?_set_self hiσ] at e2
        cases e2
        exact ⟨u, r, .inr ⟨.inl hk, c, hc, hc'⟩⟩
      · rw [List.getElem?_set_ne (Ne.symm hj)] at e2
        obtain ⟨u', r', q⟩ := hl j y v' e1 e2 e3
        refine ⟨u', r', ?_⟩
        rcases q with q | ⟨k, c', e, z'⟩
        · exact .inl q
        · refine .inr ⟨k, c', e, z'.sameBut hs ?_⟩
          rintro rfl
          exact hj (nodup_ix hN e1 (I.ok.inj _ _ _ e hc ▸ hi))
    · by_cases hcc : c' = c
      · subst hcc; exact ⟨_, hc'⟩
      · obtain ⟨w2, z2⟩ := I.cell y c' e
        exact ⟨w2, z2.sameBut hs hcc⟩
    · obtain ⟨e, n, ne, nf, d⟩ := I.pin p hp
      refine ⟨(hs.2 p.1 ?_).trans e, n, ne, nf, d⟩
      intro q
      rw [q, hoc] at e
      have q' : oc = p.2 := Option.some.inj e
      exact d w' (by rw [← q']; exact hocd)
theorem store_ok {M : Model} {A : Around} {E : Value → Shared → Prop} {i : Nat} {x : Str} {v : V} {u : Value} {Q : Unit → Shared → Prop} (I : Inv X pins σ H s) (hN : X.N.Nodup) (hi : X.N[i]? = some x) (hx : Loc X.env.scope x) (r : RelV v u)
    (h : ∀ s', Inv X pins (σ.set i (some v)) H s' → Q () s') (hf : X.fn x = true ∨ X.env.scope.names.lookup x = some .local := by first | exact .inl rfl | exact .inr rfl | assumption) : wpAny M A (storeName X.env x u) Q E s :=
  store_ok2 I hN hi hx r (fun s' I' _ => h s' I') hf
/-- behind a call or a block, the state as it is -/
theorem Inv.call' {s' : Shared} {ch : List Addr} (I : Inv X pins σ H s) (ho : s'.os = s.os) (u : Un (frs X.stack) ch H H' s.heap s'.heap) (hok : HOk X.prog X.w H' s'.heap) (hg : AllBare s'.gens)
    (hch : ∀ b ∈ ch, (b ∈ X.ex ∨ X.s₀.heap.objs.size ≤ b) ∧ b ≠ X.env.locals ∧ (∀ x c, X.env.cells.lookup x = some c → c ≠ b) ∧ ∀ p ∈ X.pn ++ pins, p.1 ≠ b) : Inv X pins σ H' s' := by
  obtain ⟨h', g', d', t', o'⟩ := s'
  have e : o' = s.os := ho
  subst e
  exact I.call (g' := g') (t' := t') (d' := d') u hok hg hch
end

/-! ### the judgements -/
/-- an exception: its class, its own dict's address (where it has one), the abstract heap behind it -/
noncomputable abbrev XK := Value → Option Addr → Hp → Prop
noncomputable abbrev St := List (Option V)
noncomputable abbrev VK := V → Hp → Prop
/-- an expression's reading; a test's; an argument list's -/
noncomputable abbrev TE := St → Hp → VK → Prop
noncomputable abbrev TT := St → Hp → (Bool → Hp → Prop) → Prop
noncomputable abbrev TA := St → Hp → (List V → Hp → Prop) → Prop
/-- what is wanted behind a statement -/
structure Ends where
  nx : St → Hp → Prop
  rt : VK
  bk : St → Hp → Prop := fun _ _ => False
  ct : St → Hp → Prop := fun _ _ => False
noncomputable abbrev TS := Ends → St → Hp → Prop

noncomputable def EP (X : Cx) (pins : List (Addr × Obj)) (σ : St) (Q : VK) (u : Value) (s' : Shared) : Prop := ∃ v H', Inv X pins σ H' s' ∧ RelV v u ∧ Q v H'
noncomputable def TP (X : Cx) (pins : List (Addr × Obj)) (σ : St) (Q : Bool → Hp → Prop) (b : Bool) (s' : Shared) : Prop := ∃ H', Inv X pins σ H' s' ∧ Q b H'
noncomputable def AP (X : Cx) (pins : List (Addr × Obj)) (σ : St) (Q : List V → Hp → Prop) (us : List Value) (s' : Shared) : Prop := ∃ vs H', Inv X pins σ H' s' ∧ Vals vs us ∧ Q vs H'
noncomputable def SP (X : Cx) (pins : List (Addr × Obj)) (D : Ends) (f : Flow) (s' : Shared) : Prop :=
  match f with
  | .next => ∃ σ' H', Inv X pins σ' H' s' ∧ D.nx σ' H'
  | .brk => ∃ σ' H', Inv X pins σ' H' s' ∧ D.bk σ' H'
  | .cont => ∃ σ' H', Inv X pins σ' H' s' ∧ D.ct σ' H'
  | .ret u => ∃ v σ' H', Inv X pins σ' H' s' ∧ RelV v u ∧ D.rt v H'

noncomputable def PE (X : Cx) (e : Expr) (t : TE) : Prop :=
  ∀ (pins : List (Addr × Obj)) (s : Shared) (σ : St) (H : Hp) (Q : VK), Inv X pins σ H s → t σ H Q → wpAny (model X.prog X.w) X.A (eval e X.env) (EP X pins σ Q) X.xe s
noncomputable def PT (X : Cx) (e : Expr) (t : TT) : Prop :=
  ∀ (pins : List (Addr × Obj)) (s : Shared) (σ : St) (H : Hp) (Q : Bool → Hp → Prop), Inv X pins σ H s → t σ H Q → wpAny (model X.prog X.w) X.A (isTrue e X.env (eval e X.env)) (TP X pins σ Q) X.xe s
/-- a test whatever its 'whole' is (and, or) -/
noncomputable def PW (X : Cx) (e : Expr) (t : TT) : Prop :=
  ∀ (whole : Sem Value) (pins : List (Addr × Obj)) (s : Shared) (σ : St) (H : Hp) (Q : Bool → Hp → Prop), Inv X pins σ H s → t σ H Q → wpAny (model X.prog X.w) X.A (isTrue e X.env whole) (TP X pins σ Q) X.xe s
theorem PW.pt {X : Cx} {e : Expr} {t : TT} (h : PW X e t) : PT X e t := h _
/-- an argument list (no star), from the left -/
noncomputable def PA (X : Cx) (es : List Expr) (t : TA) : Prop :=
  ∀ (pos : Pos) (pins : List (Addr × Obj)) (s : Shared) (σ : St) (H : Hp) (Q : List V → Hp → Prop), Inv X pins σ H s → t σ H Q → wpAny (model X.prog X.w) X.A (spliced (backTo pos (starEach es X.env))) (AP X pins σ Q) X.xe s
noncomputable def PS (X : Cx) (st : Stmt) (t : TS) : Prop :=
  ∀ (pins : List (Addr × Obj)) (s : Shared) (σ : St) (H : Hp) (D : Ends), Inv X pins σ H s → t D σ H → wpAny (model X.prog X.w) X.A (exec st X.env) (SP X pins D) X.xe s
noncomputable def PSs (X : Cx) (st : List Stmt) (t : TS) : Prop :=
  ∀ (pins : List (Addr × Obj)) (s : Shared) (σ : St) (H : Hp) (D : Ends), Inv X pins σ H s → t D σ H → wpAny (model X.prog X.w) X.A (execs st X.env) (SP X pins D) X.xe s
/-- weaken the end -/
theorem thn {α : Type} {t : Sem α} {Q Q' : α → Shared → Prop} {M : Model} {A : Around} {E : Value → Shared → Prop} {s : Shared} (h : wpAny M A t Q E s) (hQ : ∀ a s, Q a s → Q' a s) : wpAny M A t Q' E s := wpAny_mono h hQ fun _ _ x => x
end L2

namespace L2
open PySem PySem.Spec PyProof.Rows
section
variable {X : Cx}

/-! ### names and constants -/
noncomputable def tVar (i : Nat) : TE := fun σ H Q => ∃ v, σ[i]? = some (some v) ∧ Q v H
noncomputable def tC (v : V) : TE := fun _ H Q => Q v H
theorem pe_var {i : Nat} {x : Str} {pos : Pos} (hN : X.N[i]? = some x) (hv : Vis X.env.scope x) (hd : (x == ("__debug__" : Str)) = false := by decide) (hcd : (x == ("__classdict__" : Str)) = false := by decide) : PE X (.Name x pos) (tVar i) := by
  intro pins s σ H Q I h
  obtain ⟨v, e, h⟩ := h
  obtain ⟨m, hn, hl⟩ := I.loc
  obtain ⟨u, r, l⟩ := hl i x v hN e hv
  have fin : EP X pins σ Q u s := ⟨v, H, I, r, h⟩
  rcases l with ⟨hk, hm⟩ | ⟨hk, c, hc, hcell⟩
  · exact wpAny_Name (wpAny_loadName_local I.ok.kind hk hn hm fin) hd
  · rcases hk with hk | hk
    · exact wpAny_Name (wpAny_loadName_cell I.ok.kind hk hc hcell fin) hd
    · exact wpAny_Name (wpAny_loadName_free I.ok.kind hk hc hcell fin hcd) hd
theorem pe_int {i j pos} : PE X (.Constant (.int i) j pos) (tC (.int i)) := fun _ _ _ H _ I h => wpAny_Constant_int ⟨.int i, H, I.tok _, ⟨_, rfl⟩, h⟩
theorem pe_bl {b j pos} : PE X (.Constant (.bool b) j pos) (tC (.bl b)) := fun _ _ _ H _ I h => Constant_bool ⟨.bl b, H, I, rfl, h⟩
theorem pe_non {j pos} : PE X (.Constant .none j pos) (tC .non) := fun _ _ _ H _ I h => Constant_none ⟨.non, H, I, rfl, h⟩
theorem pe_str {x j pos} : PE X (.Constant (.str x) j pos) (tC (.str x)) := fun _ _ _ H _ I h => Calls.Constant_str ⟨.str x, H, I.tok _, ⟨_, rfl⟩, h⟩

/-- a global name of the def -/
noncomputable def Gl (X : Cx) (x : Str) : Prop := X.env.kindOf x = some .globalImplicit
theorem ld_glob {E : Value → Shared → Prop} {pins : List (Addr × Obj)} {s : Shared} {σ : St} {H : Hp} {x : Str} {u : Value} {pos : Pos} {Q : Value → Shared → Prop} (I : Inv X pins σ H s) (hg : Gl X x) (hm : X.mg x = some u) (h : Q u s)
    (hd : (x == ("__debug__" : Str)) = false := by decide) : wpAny (model X.prog X.w) X.A (eval (.Name x pos) X.env) Q E s :=
  Calls.Name_function_global I.ok.kind hg (Calls.loadGlobal_global (by rw [I.ok.glob]; exact I.mod.glob.keeps I.bk) hm h) hd
theorem ld_blt {E : Value → Shared → Prop} {pins : List (Addr × Obj)} {s : Shared} {σ : St} {H : Hp} {x : Str} {u : Value} {pos : Pos} {Q : Value → Shared → Prop} (I : Inv X pins σ H s) (hg : Gl X x) (hm : X.mg x = none) (hv : bootBuiltins x = some u) (h : Q u s)
    (hn : x ≠ "__name__" := by decide) (hd : (x == ("__debug__" : Str)) = false := by decide) : wpAny (model X.prog X.w) X.A (eval (.Name x pos) X.env) Q E s := by
  obtain ⟨mb, h1, h2⟩ := I.mod.blt
  exact Calls.Name_function_global I.ok.kind hg (Calls.loadGlobal_builtin (by rw [I.ok.glob]; exact I.mod.glob.keeps I.bk) hm (by rw [I.ok.blt]; exact h1.keeps I.bk) ((h2 x hn).trans hv) h) hd
/-- a module's constant, a class, a function, as a value -/
theorem pe_glob {x : Str} {v : V} {u : Value} {pos : Pos} (hg : Gl X x) (hm : X.mg x = some u) (r : RelV v u) (hd : (x == ("__debug__" : Str)) = false := by decide) : PE X (.Name x pos) (tC v) :=
  fun _ _ _ H _ I h => ld_glob I hg hm ⟨v, H, I, r, h⟩ hd
theorem pe_bltn {x : Str} {v : V} {u : Value} {pos : Pos} (hg : Gl X x) (hm : X.mg x = none) (hv : bootBuiltins x = some u) (r : RelV v u) (hn : x ≠ "__name__" := by decide) (hd : (x == ("__debug__" : Str)) = false := by decide) : PE X (.Name x pos) (tC v) :=
  fun _ _ _ H _ I h => ld_blt I hg hm hv ⟨v, H, I, r, h⟩ hn hd

variable {a b : Expr} {ta tb : TE} {pos : Pos}
/-- a comparison as a value, as a test -/
noncomputable def tB (t : TE) : TT := fun σ H Q => t σ H fun x H1 => ∃ c, x = .bl c ∧ Q c H1
/-- an expression whose value is a bool, as a test -/
theorem pt_val {e : Expr} {t : TE} (h : PE X e t) (he : ∀ whole, isTrue e X.env whole = (do let v ← whole; standAt e.pos; holding [v] (truthy v)) := by intro _; rfl) : PT X e (tB t) := by
  intro pins s σ H Q I hw
  refine isTrue_plain (thn (h pins s σ H _ I hw) fun v s1 ⟨x, H1, I1, r1, q1⟩ => ?_) (he _)
  obtain ⟨d, rfl, q⟩ := q1
  cases r1
  exact wpAny_truthy_bool ⟨H1, I1, q⟩

/-! ### and, or, not -/
variable {tA tB' : TT} {rest : List Expr}
noncomputable def tAnd (t u : TT) : TT := fun σ H Q => t σ H fun c H1 => if c = true then u σ H1 Q else Q false H1
noncomputable def tOr (t u : TT) : TT := fun σ H Q => t σ H fun c H1 => if c = true then Q true H1 else u σ H1 Q
noncomputable def tNot (t : TT) : TT := fun σ H Q => t σ H fun c H1 => Q (!c) H1
theorem pw_and1 (ha : PT X a tA) : PW X (.BoolOp .And [a] pos) tA := by
  intro wh pins s σ H Q I h
  refine isTrue_and (thn (ha pins s σ H Q I h) fun c s1 e => ?_)
  cases c with
  | true => exact isTrue_and_nil e
  | false => exact e
theorem pw_or1 (ha : PT X a tA) : PW X (.BoolOp .Or [a] pos) tA := by
  intro wh pins s σ H Q I h
  refine isTrue_or (thn (ha pins s σ H Q I h) fun c s1 e => ?_)
  cases c with
  | false => exact isTrue_or_nil e
  | true => exact e
theorem pw_and (ha : PT X a tA) (hb : PW X (.BoolOp .And (b :: rest) pos) tB') : PW X (.BoolOp .And (a :: b :: rest) pos) (tAnd tA tB') := by
  intro wh pins s σ H Q I h
  refine isTrue_and (thn (ha pins s σ H _ I h) fun c s1 ⟨H1, I1, q1⟩ => ?_)
  cases c with
  | true => exact hb wh pins s1 σ H1 Q I1 q1
  | false => exact ⟨H1, I1, q1⟩
theorem pw_or (ha : PT X a tA) (hb : PW X (.BoolOp .Or (b :: rest) pos) tB') : PW X (.BoolOp .Or (a :: b :: rest) pos) (tOr tA tB') := by
  intro wh pins s σ H Q I h
  refine isTrue_or (thn (ha pins s σ H _ I h) fun c s1 ⟨H1, I1, q1⟩ => ?_)
  cases c with
  | true => exact ⟨H1, I1, q1⟩
  | false => exact hb wh pins s1 σ H1 Q I1 q1
theorem pt_not (ha : PT X a tA) : PT X (.UnaryOp .Not a pos) (tNot tA) := by
  intro pins s σ H Q I h
  exact isTrue_not (ha pins s σ H (fun c H1 => Q (!c) H1) I h)
/-- .. as values (bools) -/
noncomputable def tAndV (ta tb : TE) : TE := fun σ H Q => ta σ H fun x H1 => ∃ c, x = .bl c ∧ if c = true then tb σ H1 Q else Q (.bl false) H1
noncomputable def tNotV (ta : TE) : TE := fun σ H Q => ta σ H fun x H1 => ∃ c, x = .bl c ∧ Q (.bl (!c)) H1
theorem pe_one {op} {t : TE} (h : PE X a t) : PE X (.BoolOp op [a] pos) t := fun pins s σ H Q I hw => BoolOp_one (h pins s σ H Q I hw)
theorem pe_and (ha : PE X a ta) (hb : PE X (.BoolOp .And (b :: rest) pos) tb) : PE X (.BoolOp .And (a :: b :: rest) pos) (tAndV ta tb) := by
  intro pins s σ H Q I h
  refine BoolOp_and (thn (ha pins s σ H _ I h) fun v s1 ⟨x, H1, I1, r1, q1⟩ => ?_)
  obtain ⟨c, rfl, q1⟩ := q1
  cases r1
  refine wpAny_truthy_bool ?_
  cases c with
  | true => exact hb pins s1 σ H1 Q I1 q1
  | false => exact ⟨.bl false, H1, I1, rfl, q1⟩
theorem pe_not (ha : PE X a ta) : PE X (.UnaryOp .Not a pos) (tNotV ta) := by
  intro pins s σ H Q I h
  refine UnaryOp_ (thn (ha pins s σ H _ I h) fun v s1 ⟨x, H1, I1, r1, q1⟩ => ?_)
  obtain ⟨c, rfl, q1⟩ := q1
  cases r1
  exact not_of (wpAny_truthy_bool ⟨.bl (!c), H1, I1, rfl, q1⟩)
/-- a if t else b -/
noncomputable def tIf (t : TT) (ta tb : TE) : TE := fun σ H Q => t σ H fun c H1 => if c = true then ta σ H1 Q else tb σ H1 Q
theorem pe_ifExp {c : Expr} (hc : PT X c tA) (ha : PE X a ta) (hb : PE X b tb) : PE X (.IfExp c a b pos) (tIf tA ta tb) := by
  intro pins s σ H Q I h
  refine wpAny_IfExp (thn (hc pins s σ H _ I h) fun d s1 ⟨H1, I1, q1⟩ => ?_)
  cases d with
  | true => exact ha pins s1 σ H1 Q I1 q1
  | false => exact hb pins s1 σ H1 Q I1 q1
end
end L2

namespace L2
open PySem PySem.Spec PyProof.Rows

/-! ### a list, a tuple that is read: tracked, frozen, or an object of the module -/
noncomputable def SqL (K : PySem.W.Frag) (H : Hp) (a : Addr) (xs : List V) : Prop :=
  Rd H a (.lst xs) ∨
    ∃ (o : Obj) (its : Array Value) (n : Nat), K.lookup a = some o ∧ o.cls = .type "list" ∧ o.dict = none ∧ o.data = .seq its n ∧ its.size ≤ sizeLine ∧ Vals xs its.toList
noncomputable def SqT (K : PySem.W.Frag) (H : Hp) (a : Addr) (xs : List V) : Prop :=
  Rd H a (.tup xs) ∨
    ∃ (o : Obj) (its : Array Value) (n : Nat), K.lookup a = some o ∧ o.cls = .type "tuple" ∧ o.data = .seq its n ∧ its.size ≤ sizeLine ∧ Vals xs its.toList
noncomputable def absV : Value → Option V
  | .none => some .non
  | .bool b => some (.bl b)
  | .int i _ => some (.int i)
  | .str x _ => some (.str x)
  | .bytes b _ => some (.byt b)
  | .float b _ => some (.flt b)
  | .ref a => some (.ref a)
  | .type n => some (.ty n)
  | _ => none
theorem RelV.abs {x : V} {u : Value} (r : RelV x u) : absV u = some x := by
  cases x with
  | non => cases r; rfl
  | bl _ => cases r; rfl
  | int _ => obtain ⟨t, rfl⟩ := r; rfl
  | str _ => obtain ⟨t, rfl⟩ := r; rfl
  | byt _ => obtain ⟨t, rfl⟩ := r; rfl
  | flt _ => obtain ⟨t, rfl⟩ := r; rfl
  | ref _ => cases r; rfl
  | ty _ => cases r; rfl
theorem RelV.inj {x y : V} {u : Value} (r : RelV x u) (q : RelV y u) : x = y := Option.some.inj (r.abs.symm.trans q.abs)
theorem Vals.inj : ∀ {xs ys : List V} {us : List Value}, Vals xs us → Vals ys us → xs = ys
  | _, _, _, .nil, .nil => rfl
  | _, _, _, .cons r t, .cons r' t' => by rw [r.inj r', Vals.inj t t']
section
variable {X : Cx} {pins : List (Addr × Obj)} {σ : St} {H : Hp} {s : Shared} {a : Addr} {xs ys : List V}
theorem SqL.of {K : PySem.W.Frag} (h : H a = some (.lst xs)) : SqL K H a xs := .inl (.inl h)
theorem SqT.of {K : PySem.W.Frag} (h : H a = some (.tup xs)) : SqT K H a xs := .inl (.inl h)
theorem Inv.list (I : Inv X pins σ H s) (h : SqL X.K H a xs) : ∃ its : List Value, Vals xs its ∧ PlainL s.heap a its.toArray ∧ xs.length ≤ sizeLine := by
  rcases h with h | ⟨o, its, n, hk, hc, hd, hs, hz, r⟩
  · obtain ⟨z, its, n, r, e⟩ := h.ok I.hok
    exact ⟨its, r, ⟨_, n, e, rfl, rfl, rfl⟩, z⟩
  · refine ⟨its.toList, r, ⟨o, n, I.kIn a o hk, hc, hd, by simpa using hs⟩, ?_⟩
    have e := r.length
    simp only [Array.length_toList] at e
    omega
theorem Inv.tuple (I : Inv X pins σ H s) (h : SqT X.K H a xs) : ∃ its : List Value, Vals xs its ∧ IsTup s.heap a its.toArray ∧ xs.length ≤ sizeLine := by
  rcases h with h | ⟨o, its, n, hk, hc, hs, hz, r⟩
  · obtain ⟨z, its, r, p⟩ := h.ok I.hok
    exact ⟨its, r, p, z⟩
  · refine ⟨its.toList, r, ⟨o, I.kIn a o hk, hc, n, by simpa using hs⟩, ?_⟩
    have e := r.length
    simp only [Array.length_toList] at e
    omega
theorem Inv.list_inj (I : Inv X pins σ H s) (h : SqL X.K H a xs) (h' : SqL X.K H a ys) : xs = ys := by
  obtain ⟨its, r, ⟨o, n, e, _, _, d⟩, _⟩ := I.list h
  obtain ⟨its', r', ⟨o', n', e', _, _, d'⟩, _⟩ := I.list h'
  rw [e] at e'; cases e'
  rw [d] at d'
  injection d' with d1 _
  have : its = its' := by simpa using congrArg Array.toList d1
  subst this
  exact r.inj r'
theorem Inv.tuple_inj (I : Inv X pins σ H s) (h : SqT X.K H a xs) (h' : SqT X.K H a ys) : xs = ys := by
  obtain ⟨its, r, ⟨o, e, _, n, d⟩, _⟩ := I.tuple h
  obtain ⟨its', r', ⟨o', e', _, n', d'⟩, _⟩ := I.tuple h'
  rw [e] at e'; cases e'
  rw [d] at d'
  injection d' with d1 _
  have : its = its' := by simpa using congrArg Array.toList d1
  subst this
  exact r.inj r'
end

/-! ### another wish about exceptions -/
noncomputable abbrev Cx.wish (X : Cx) (E : Value → Shared → Prop) : Cx := { X with xe := E }
/-- no exception leaves -/
noncomputable abbrev Cx.nox (X : Cx) : Cx := X.wish fun _ _ => False
theorem Cx.Ok.wish {X : Cx} (ok : X.Ok) (E : Value → Shared → Prop) : (X.wish E).Ok :=
  ⟨ok.mod, ok.kind, ok.glob, ok.blt, ok.above, ok.inj, ok.has, ok.cab, ok.hd, ok.frames, ok.stk, ok.exf, ok.bs, ok.bsz, ok.noex, ok.exfs, ok.funs, ok.frf⟩
theorem Cx.Ok.unwish {X : Cx} {E : Value → Shared → Prop} (ok : (X.wish E).Ok) : X.Ok :=
  ⟨ok.mod, ok.kind, ok.glob, ok.blt, ok.above, ok.inj, ok.has, ok.cab, ok.hd, ok.frames, ok.stk, ok.exf, ok.bs, ok.bsz, ok.noex, ok.exfs, ok.funs, ok.frf⟩
section
variable {X : Cx} {pins : List (Addr × Obj)} {σ : St} {H : Hp} {s : Shared} {E : Value → Shared → Prop}
theorem Inv.wish (I : Inv X pins σ H s) (E : Value → Shared → Prop) : Inv (X.wish E) pins σ H s := ⟨I.ok.wish E, I.os, I.bare, I.base, I.loc, I.cell, I.free, I.freeC, I.pin, I.hok, I.len⟩
theorem Inv.unwish (I : Inv (X.wish E) pins σ H s) : Inv X pins σ H s := ⟨I.ok.unwish, I.os, I.bare, I.base, I.loc, I.cell, I.free, I.freeC, I.pin, I.hok, I.len⟩
theorem SP.unwish {D : Ends} {f : Flow} {s' : Shared} (h : SP (X.wish E) pins D f s') : SP X pins D f s' := by
  cases f with
  | next => obtain ⟨σ', H', I, q⟩ := h; exact ⟨σ', H', I.unwish, q⟩
  | brk => obtain ⟨σ', H', I, q⟩ := h; exact ⟨σ', H', I.unwish, q⟩
  | cont => obtain ⟨σ', H', I, q⟩ := h; exact ⟨σ', H', I.unwish, q⟩
  | ret u => obtain ⟨v, σ', H', I, r, q⟩ := h; exact ⟨v, σ', H', I.unwish, r, q⟩
theorem PE.nox {e : Expr} {t : TE} (h : PE X.nox e t) : PE X e t := fun pins s σ H Q I hw =>
  wpAny_mono (h pins s σ H Q (I.wish _) hw) (fun _ _ ⟨v, H', I', r, q⟩ => ⟨v, H', I'.unwish, r, q⟩) fun _ _ z => False.elim z
theorem PT.nox {e : Expr} {t : TT} (h : PT X.nox e t) : PT X e t := fun pins s σ H Q I hw =>
  wpAny_mono (h pins s σ H Q (I.wish _) hw) (fun _ _ ⟨H', I', q⟩ => ⟨H', I'.unwish, q⟩) fun _ _ z => False.elim z
theorem PSs.nox {st : List Stmt} {t : TS} (h : PSs X.nox st t) : PSs X st t := fun pins s σ H D I hw =>
  wpAny_mono (h pins s σ H D (I.wish _) hw) (fun _ _ q => q.unwish) fun _ _ z => False.elim z
end

/-! ### blocks and small statements -/
section
variable {X : Cx} {st : Stmt} {rest : List Stmt} {t u : TS} {e : Expr} {te : TE} {pos : Pos}
noncomputable def tNext : TS := fun D σ H => D.nx σ H
noncomputable def tSeq (t u : TS) : TS := fun D σ H => t { D with nx := u D } σ H
theorem pss_nil : PSs X [] tNext := fun _ _ σ H _ I h => wpAny_execs_nil ⟨σ, H, I, h⟩
theorem pss_cons (h1 : PS X st t) (h2 : PSs X rest u) : PSs X (st :: rest) (tSeq t u) := by
  intro pins s σ H D I h
  refine wpAny_execs_cons (thn (h1 pins s σ H { D with nx := u D } I h) fun f s1 q => ?_)
  cases f with
  | next =>
    obtain ⟨σ', H', I', q⟩ := q
    exact h2 pins s1 σ' H' D I' q
  | ret v => exact q
  | brk => exact q
  | cont => exact q
theorem pss_one (h1 : PS X st t) : PSs X [st] t := by
  intro pins s σ H D I h
  refine wpAny_execs_cons (thn (h1 pins s σ H D I h) fun f s1 q => ?_)
  cases f with
  | next => exact wpAny_execs_nil q
  | ret v => exact q
  | brk => exact q
  | cont => exact q
/-- in a def's body nothing is shown -/
theorem Inv.quiet {pins : List (Addr × Obj)} {σ : St} {H : Hp} {s : Shared} (I : Inv X pins σ H s) : interactive X.env = false := by simp [interactive, I.ok.kind]
/-- an expression whose value is dropped -/
noncomputable def tDrop (te : TE) : TS := fun D σ H => te σ H fun _ H1 => D.nx σ H1
theorem ps_expr (he : PE X e te) (hs : swapsWith e none pos.line X.env = pure false := by rfl) : PS X (.Expr e pos) (tDrop te) := by
  intro pins s σ H D I h
  exact wpAny_Expr_any (thn (he pins s σ H _ I h) fun v s1 ⟨x, H1, I1, r1, q1⟩ => ⟨σ, H1, I1, q1⟩) I.quiet hs
noncomputable def tRet (te : TE) : TS := fun D σ H => te σ H D.rt
theorem ps_ret (he : PE X e te) : PS X (.Return (some e) pos) (tRet te) := by
  intro pins s σ H D I h
  exact wpAny_Return_some (thn (he pins s σ H _ I h) fun v s1 ⟨x, H1, I1, r1, q1⟩ => ⟨x, σ, H1, I1, r1, q1⟩)
noncomputable def tIfS (c : TT) (t u : TS) : TS := fun D σ H => c σ H fun b H1 => if b = true then t D σ H1 else u D σ H1
theorem ps_if {c : Expr} {a b : List Stmt} {tc : TT} (hc : PT X c tc) (ha : PSs X a t) (hb : PSs X b u) : PS X (.If c a b pos) (tIfS tc t u) := by
  intro pins s σ H D I h
  refine wpAny_If (thn (hc pins s σ H _ I h) fun d s1 ⟨H1, I1, q1⟩ => ?_)
  cases d with
  | true => exact ha pins s1 σ H1 D I1 q1
  | false => exact hb pins s1 σ H1 D I1 q1
/-- code that the proof never comes to -/
noncomputable def tNever : TS := fun _ _ _ => False
theorem pss_never {sts : List Stmt} : PSs X sts tNever := fun _ _ _ _ _ _ h => h.elim
end

/-! ### targets -/
noncomputable abbrev TG := V → St → Hp → (St → Hp → Prop) → Prop
noncomputable abbrev TGs := List V → St → Hp → (St → Hp → Prop) → Prop
noncomputable def PG (X : Cx) (target : Expr) (t : TG) : Prop :=
  ∀ (pins : List (Addr × Obj)) (s : Shared) (σ : St) (H : Hp) (v : V) (u : Value) (Q : St → Hp → Prop), Inv X pins σ H s → RelV v u → t v σ H Q →
    wpAny (model X.prog X.w) X.A (assign target X.env u) (fun _ s' => ∃ σ' H', Inv X pins σ' H' s' ∧ Q σ' H') X.xe s
/-- several targets, one after another -/
noncomputable def PGs (X : Cx) (ts : List Expr) (t : TGs) : Prop :=
  ∀ (pins : List (Addr × Obj)) (s : Shared) (σ : St) (H : Hp) (vs : List V) (us : List Value) (Q : St → Hp → Prop), Inv X pins σ H s → Vals vs us → t vs σ H Q →
    wpAny (model X.prog X.w) X.A (assignInOrder ((assignEach ts X.env).map (·.2)) us) (fun _ s' => ∃ σ' H', Inv X pins σ' H' s' ∧ Q σ' H') X.xe s
/-- o[i] = v, by values -/
noncomputable abbrev TSet := V → V → V → Hp → (Hp → Prop) → Prop
noncomputable def PSet (X : Cx) (t : TSet) : Prop :=
  ∀ (pins : List (Addr × Obj)) (s : Shared) (σ : St) (H : Hp) (o i v : V) (ov iv u : Value) (Q : Hp → Prop), Inv X pins σ H s → RelV o ov → RelV i iv → RelV v u → t o i v H Q →
    wpAny (model X.prog X.w) X.A (setItem ov iv u) (fun _ s' => ∃ H', Inv X pins σ H' s' ∧ Q H') X.xe s
section
variable {X : Cx} {pos : Pos}
noncomputable def gName (i : Nat) : TG := fun v σ H Q => Q (σ.set i (some v)) H
theorem pg_name {i : Nat} {x : Str} (hN : X.N.Nodup) (hi : X.N[i]? = some x) (hx : Loc X.env.scope x) (hf : X.fn x = true ∨ X.env.scope.names.lookup x = some .local := by first | exact .inl rfl | exact .inr rfl | assumption) : PG X (.Name x pos) (gName i) := by
  intro pins s σ H v u Q I r h
  exact wpAny_assign_Name (store_ok I hN hi hx r (fun s' I' => ⟨_, H, I', h⟩) hf)
noncomputable def gNil : TGs := fun vs σ H Q => vs = [] ∧ Q σ H
noncomputable def gCons (t : TG) (u : TGs) : TGs := fun vs σ H Q => ∃ v r, vs = v :: r ∧ t v σ H fun σ' H' => u r σ' H' Q
theorem pgs_nil : PGs X [] gNil := by
  intro pins s σ H vs us Q I r h
  obtain ⟨e, h⟩ := h
  subst e
  cases r
  exact assignInOrder_nil ⟨σ, H, I, h⟩
theorem pgs_cons {e : Expr} {es : List Expr} {t : TG} {u : TGs} (h1 : PG X e t) (h2 : PGs X es u)
    (hs : (assignEach (e :: es) X.env).map (·.2) = assign e X.env :: (assignEach es X.env).map (·.2) := by rfl) : PGs X (e :: es) (gCons t u) := by
  intro pins s σ H vs us Q I r h
  obtain ⟨v, vr, e1, h⟩ := h
  subst e1
  cases r with
  | cons r rr =>
    rw [hs]
    refine assignInOrder_cons (thn (h1 pins s σ H _ _ _ I r h) fun _ s1 ⟨σ1, H1, I1, q1⟩ => ?_)
    exact h2 pins s1 σ1 H1 _ _ Q I1 rr q1
/-- (a, b, ..) = a tuple of that length -/
noncomputable def gTup (K : PySem.W.Frag) (n : Nat) (t : TGs) : TG := fun v σ H Q => ∃ a xs, v = .ref a ∧ SqT K H a xs ∧ xs.length = n ∧ t xs σ H Q
theorem pg_tup {es : List Expr} {k : Nat} {t : TGs} {n : Nat} (hc : X.calm = true) (h : PGs X es t)
    (hn : (assignEach es X.env).length = n := by rfl) (hst : (assignEach es X.env).findIdx? (·.1) = none := by rfl) : PG X (.Tuple es k pos) (gTup X.K n t) := by
  intro pins s σ H v u Q I r hw
  obtain ⟨a, xs, e1, hq, hl, hw⟩ := hw
  subst e1
  cases r
  obtain ⟨its, rv, ht, hz⟩ := I.tuple hq
  refine assign_Tuple_tuple (I.ok.hd hc) ht (by simp [hn, ← hl, rv.length]) hst fun h' hx => ?_
  have I1 : Inv X pins σ H { s with heap := h' } := I.kept (t' := s.toks) fun b o e => hx b o (Nat.ne_of_lt (Heap.lt_size e)) e
  exact h pins _ σ H xs _ Q I1 (by simpa using rv) hw
/-- o[i] = .. -/
noncomputable def gSub (to ti : TE) (t : TSet) : TG := fun v σ H Q => to σ H fun o H1 => ti σ H1 fun i H2 => t o i v H2 fun H3 => Q σ H3
theorem pg_sub {o i : Expr} {to ti : TE} {t : TSet} (ho : PE X o to) (hi : PE X i ti) (hs : PSet X t)
    (ha : ∀ v, assign (.Subscript o i pos) X.env v = (do
      let ov ← holding [v] (eval o X.env)
      let iv ← holding [v, ov] (eval i X.env)
      standAt pos
      holding [v, ov, iv] (setItem ov iv v)
      release [v, ov, iv] []) := by intro _; rfl) : PG X (.Subscript o i pos) (gSub to ti t) := by
  intro pins s σ H v u Q I r h
  rw [ha]
  refine wpAny_bind (wpAny_holding (thn (ho pins s σ H _ I h) fun ov s1 ⟨x, H1, I1, r1, q1⟩ => ?_))
  refine wpAny_bind (wpAny_holding (thn (hi pins s1 σ H1 _ I1 q1) fun iv s2 ⟨y, H2, I2, r2, q2⟩ => ?_))
  refine wpAny_bind (wpAny_standAt (wpAny_bind (wpAny_holding (thn (hs pins s2 σ H2 x y v ov iv u _ I2 r1 r2 r q2) fun _ s3 ⟨H3, I3, q3⟩ => ?_))))
  exact wpAny_release ⟨σ, H3, I3, q3⟩
/-- target = value -/
noncomputable def tAsg (te : TE) (g : TG) : TS := fun D σ H => te σ H fun x H1 => g x σ H1 D.nx
theorem ps_asg {tg e : Expr} {te : TE} {g : TG} (he : PE X e te) (hg : PG X tg g) (hs : swapsWithSole [tg] e pos.line X.env = pure false := by rfl) (hw : swappedStores [tg] e X.env = pure none := by rfl)
    (h1 : (assignEach [tg] X.env).map (·.2) = [assign tg X.env] := by rfl) : PS X (.Assign [tg] e pos) (tAsg te g) := by
  intro pins s σ H D I h
  refine wpAny_Assign_stores (thn (he pins s σ H _ I h) fun v s1 ⟨x, H1, I1, r1, q1⟩ => ?_) hs hw
  rw [h1]
  exact thn (hg pins s1 σ H1 x v _ I1 r1 q1) fun _ s2 q => q
/-- name = value -/
theorem ps_set {i : Nat} {x : Str} {e : Expr} {te : TE} {pos' : Pos} (hN : X.N.Nodup) (hi : X.N[i]? = some x) (hx : Loc X.env.scope x) (he : PE X e te) (hs : swapsWith e (some (.Name x pos')) pos.line X.env = pure false := by rfl) (hf : X.fn x = true ∨ X.env.scope.names.lookup x = some .local := by first | exact .inl rfl | exact .inr rfl | assumption) :
    PS X (.Assign [.Name x pos'] e pos) (tAsg te (gName i)) := by
  intro pins s σ H D I h
  refine wpAny_Assign_Name (thn (he pins s σ H _ I h) fun v s1 ⟨y, H1, I1, r1, q1⟩ => ?_) hs
  exact store_ok I1 hN hi hx r1 (fun s2 I2 => ⟨_, H1, I2, q1⟩) hf
end

/-! ### while -/
section
variable {X : Cx} {pos : Pos}
end

/-! ### what a loop or a comprehension walks -/
/-- at turn i: it yields x (the heap may grow), or it stops -/
structure It where
  go : Nat → Hp → Prop
  yld : Nat → Hp → V → Hp → Prop
  stop : Nat → Hp → Prop
/-- the iterator's own objects may turn: they are not the frame's, not pinned, younger than the entry (or a comprehension's own) -/
noncomputable def FpOk (X : Cx) (pins : List (Addr × Obj)) (H : Hp) (b : Addr) : Prop :=
  H b = none ∧ b ≠ X.env.locals ∧ b ∉ X.fs ∧ (b ∈ X.ex ∨ X.s₀.heap.objs.size ≤ b) ∧ (∀ x c, X.env.cells.lookup x = some c → c ≠ b) ∧ ∀ p ∈ X.pn ++ pins, p.1 ≠ b
theorem Inv.fpOk {X : Cx} {pins : List (Addr × Obj)} {σ : St} {H H' : Hp} {s : Shared} {b : Addr} (I : Inv X pins σ H s) (hb : s.heap.objs.size ≤ b) (hn : H' b = none) : FpOk X pins H' b := by
  refine ⟨hn, Nat.ne_of_gt (Nat.lt_of_lt_of_le I.lt hb), I.nofs hb, .inr (Nat.le_trans I.sz hb), fun x c e z => ?_, fun p hp z => ?_⟩
  · obtain ⟨v, q⟩ := I.cell x c e
    exact absurd (Nat.lt_of_lt_of_le q.lt (by rw [z]; exact hb)) (Nat.lt_irrefl _)
  · exact absurd (Nat.lt_of_lt_of_le (Heap.lt_size (I.pin p hp).1) (by rw [z]; exact hb)) (Nat.lt_irrefl _)
structure Turn (P : Program) (w : World) (K : PySem.W.Frag) (tg : Expr) (J : It) (fp : List Addr) (it : Addr) (tn : Nat → Heap → Prop) : Prop where
  mem : it ∈ fp
  obj : ∀ i h, tn i h → ∀ b ∈ fp, ∃ o, h.get? b = some o ∧ ∀ v, o.data ≠ .cell v
  keep : ∀ i h h', tn i h → (∀ b ∈ fp, ∀ o, h.get? b = some o → h'.get? b = some o) → tn i h'
  item : ∀ (X : Cx), X.prog = P → X.w = w → X.K = K → X.calm = true → ∀ (i : Nat) (pins : List (Addr × Obj)) (s : Shared) (σ : St) (H : Hp) (E : Value → Shared → Prop), Inv X pins σ H s → (∀ b ∈ fp, FpOk X pins H b) → tn i s.heap → J.go i H →
    wpAny (model P w) X.A (pyNext (.ref it)) (fun r s1 => ∃ u, r = some u ∧
      wpAny (model P w) X.A (letOwnedTupleGo tg (.ref it) u) (fun _ s2 => ∃ x H', Inv X pins σ H' s2 ∧ RelV x u ∧ J.yld i H x H' ∧ tn (i + 1) s2.heap ∧ ∀ b ∈ fp, H' b = none) E s1) E s
  done : ∀ (X : Cx), X.prog = P → X.w = w → X.K = K → X.calm = true → ∀ (i : Nat) (pins : List (Addr × Obj)) (s : Shared) (σ : St) (H : Hp) (E : Value → Shared → Prop), Inv X pins σ H s → (∀ b ∈ fp, FpOk X pins H b) → tn i s.heap → J.stop i H →
    wpAny (model P w) X.A (pyNext (.ref it)) (fun r s1 => r = none ∧ Inv X pins σ H s1) E s
  self : ∀ (A : Around) (i : Nat) (s : Shared) (Q : Value → Shared → Prop) (E : Value → Shared → Prop), tn i s.heap → Q (.ref it) s → wpAny (model P w) A (pyIter (.ref it)) Q E s
noncomputable abbrev TI := St → Hp → (It → Hp → Prop) → Prop
/-- an iterator has come -/
noncomputable def PIE (X : Cx) (pins : List (Addr × Obj)) (σ : St) (tg : Expr) (R : It → Hp → Prop) (itv : Value) (s2 : Shared) : Prop :=
  ∃ (it : Addr) (fp : List Addr) (tn : Nat → Heap → Prop) (J : It) (H' : Hp), itv = .ref it ∧ Inv X pins σ H' s2 ∧ Turn X.prog X.w X.K tg J fp it tn ∧ tn 0 s2.heap ∧ (∀ b ∈ fp, FpOk X pins H' b) ∧ R J H'
noncomputable def PI (X : Cx) (tg iter : Expr) (wi : TI) : Prop :=
  ∀ (pins : List (Addr × Obj)) (s : Shared) (σ : St) (H : Hp) (R : It → Hp → Prop), Inv X pins σ H s → wi σ H R →
    wpAny (model X.prog X.w) X.A (eval iter X.env) (fun v s1 => wpAny (model X.prog X.w) X.A (pyIter v) (PIE X pins σ tg R) X.xe s1) X.xe s

/-- the step ahead of the store is nothing for an iterator that keeps no tuple -/
theorem go_of {M : Model} {A : Around} {E : Value → Shared → Prop} {s : Shared} {tg : Expr} {it : Addr} {u : Value} {o : Obj} {n : String} {vs : Array Value} {Q : Unit → Shared → Prop} (ho : s.heap.get? it = some o) (hc : o.cls = .type n) (hd : o.data = .fields vs)
    (hn : ["enumerate", "zip", "dict_itemiterator", "dict_reverseitemiterator", "odict_iterator", "itertools.zip_longest", "itertools.pairwise"].contains n = false) (hQ : Q () s) : wpAny M A (letOwnedTupleGo tg (.ref it) u) Q E s := by
  unfold letOwnedTupleGo
  cases tg <;> first
    | exact wpAny_pure hQ
    | (cases u <;> first
        | exact wpAny_pure hQ
        | (refine wpAny_bind (wpAny_load ho ?_)
           rw [hc, hd]
           show wpAny M A (if (["enumerate", "zip", "dict_itemiterator", "dict_reverseitemiterator", "odict_iterator", "itertools.zip_longest", "itertools.pairwise"].contains n && vs[0]? == some (rawInt _)) = true then _ else _) Q E s
           rw [if_neg (by intro h; rw [hn, Bool.false_and] at h; cases h)]
           exact wpAny_pure hQ))

/-- the list at a, as it stands at each turn (a loop may append to it) -/
noncomputable def Itl (K : PySem.W.Frag) (a : Addr) : It :=
  ⟨fun i H => ∃ xs x, SqL K H a xs ∧ xs[i]? = some x, fun i H x H' => H' = H ∧ ∀ xs, SqL K H a xs → xs[i]? = some x, fun i H => ∃ xs, SqL K H a xs ∧ xs.length ≤ i⟩
noncomputable def Itt (K : PySem.W.Frag) (a : Addr) : It :=
  ⟨fun i H => ∃ xs x, SqT K H a xs ∧ xs[i]? = some x, fun i H x H' => H' = H ∧ ∀ xs, SqT K H a xs → xs[i]? = some x, fun i H => ∃ xs, SqT K H a xs ∧ xs.length ≤ i⟩
/-- lo, lo + 1, .. (n of them) -/
noncomputable def Itr (lo : Int) (n : Nat) : It := ⟨fun i _ => i < n, fun i H x H' => H' = H ∧ x = .int (lo + i), fun i _ => n ≤ i⟩
theorem turn_list {P : Program} {w : World} {K : PySem.W.Frag} {tg : Expr} (a it : Addr) : Turn P w K tg (Itl K a) [it] it (fun i h => h.IsListIter it a i) where
  mem := by simp
  obj := fun i h st b hb => by
    have e : b = it := by simpa using hb
    subst e
    obtain ⟨o, e, c, d⟩ := st
    exact ⟨o, e, fun v z => by rw [d] at z; cases z⟩
  keep := fun i h h' st k => st.at fun o e => k it (by simp) o e
  item := by
    intro X hP hw hK hc i pins s σ H E I hf st hg
    subst hP hw hK
    obtain ⟨xs, x, hq, hx⟩ := hg
    obtain ⟨its, rv, p, hz⟩ := I.list hq
    obtain ⟨u, hu, ru⟩ := rv.get hx
    obtain ⟨f0, f1, f2, f3, f4, f5⟩ := hf it (by simp)
    refine wpAny_pyNext_list_item st p.isList (x := u) (by simpa using hu) fun h' st' sb => ?_
    have I1 : Inv X pins σ H { s with heap := h' } := I.turned (t' := s.toks) (fun b o hb e => (sb.2 b hb).trans e) f0 f1 f3 f4 f5
    obtain ⟨o, e, c, d⟩ := id st'
    exact ⟨u, rfl, go_of (s := { s with heap := h' }) e c d (by decide) ⟨x, H, I1, ru, ⟨rfl, fun ys hy => by rw [I.list_inj hy hq]; exact hx⟩, st', fun b hb => (hf b hb).1⟩⟩
  done := by
    intro X hP hw hK hc i pins s σ H E I hf st hg
    subst hP hw hK
    obtain ⟨xs, hq, hx⟩ := hg
    obtain ⟨its, rv, p, hz⟩ := I.list hq
    obtain ⟨f0, f1, f2, f3, f4, f5⟩ := hf it (by simp)
    have hl := rv.length
    exact wpAny_pyNext_list_end (I.ok.hd hc) st p.isList (by simp; omega) fun h' eb => ⟨rfl, I.turned (t' := s.toks) (fun b o hb e => eb b o hb e) f0 f1 f3 f4 f5⟩
  self := fun _ _ _ _ _ st h => wpAny_pyIter_listiter st h
theorem turn_tuple {P : Program} {w : World} {K : PySem.W.Frag} {tg : Expr} (a it : Addr) : Turn P w K tg (Itt K a) [it] it (fun i h => h.IsTupleIter it a i) where
  mem := by simp
  obj := fun i h st b hb => by
    have e : b = it := by simpa using hb
    subst e
    obtain ⟨o, e, c, d⟩ := st
    exact ⟨o, e, fun v z => by rw [d] at z; cases z⟩
  keep := fun i h h' st k => st.at fun o e => k it (by simp) o e
  item := by
    intro X hP hw hK hc i pins s σ H E I hf st hg
    subst hP hw hK
    obtain ⟨xs, x, hq, hx⟩ := hg
    obtain ⟨its, rv, p, hz⟩ := I.tuple hq
    obtain ⟨u, hu, ru⟩ := rv.get hx
    obtain ⟨f0, f1, f2, f3, f4, f5⟩ := hf it (by simp)
    refine wpAny_pyNext_tuple_item st (show s.heap.IsTuple a its.toArray from p) (x := u) (by simpa using hu) fun h' st' sb => ?_
    have I1 : Inv X pins σ H { s with heap := h' } := I.turned (t' := s.toks) (fun b o hb e => (sb.2 b hb).trans e) f0 f1 f3 f4 f5
    obtain ⟨o, e, c, d⟩ := id st'
    exact ⟨u, rfl, go_of (s := { s with heap := h' }) e c d (by decide) ⟨x, H, I1, ru, ⟨rfl, fun ys hy => by rw [I.tuple_inj hy hq]; exact hx⟩, st', fun b hb => (hf b hb).1⟩⟩
  done := by
    intro X hP hw hK hc i pins s σ H E I hf st hg
    subst hP hw hK
    obtain ⟨xs, hq, hx⟩ := hg
    obtain ⟨its, rv, p, hz⟩ := I.tuple hq
    obtain ⟨f0, f1, f2, f3, f4, f5⟩ := hf it (by simp)
    have hl := rv.length
    exact wpAny_pyNext_tuple_end (I.ok.hd hc) st (show s.heap.IsTuple a its.toArray from p) (by simp; omega) fun h' eb => ⟨rfl, I.turned (t' := s.toks) (fun b o hb e => eb b o hb e) f0 f1 f3 f4 f5⟩
  self := fun _ _ _ _ _ st h => wpAny_pyIter_tupleiter st h
theorem turn_range {P : Program} {w : World} {K : PySem.W.Frag} {tg : Expr} (it : Addr) (lo : Int) (n : Nat) : Turn P w K tg (Itr lo n) [it] it (fun i h => IsRangeIter h it (lo + (i : Nat) * 1) ((n : Int) - (i : Nat)) 1) where
  mem := by simp
  obj := fun i h st b hb => by
    have e : b = it := by simpa using hb
    subst e
    exact ⟨_, st, fun v z => by
      have z' : Data.fields _ = Data.cell v := z
      cases z'⟩
  keep := fun i h h' st k => k it (by simp) _ st
  item := by
    intro X hP hw hK hc i pins s σ H E I hf st hg
    subst hP hw hK
    obtain ⟨f0, f1, f2, f3, f4, f5⟩ := hf it (by simp)
    have W := Walks.range (prog := X.prog) (w := X.w) (I.ok.hd hc) it lo 1 n
    refine W.item i s _ _ hg st fun v h' tk hv st' kk => ?_
    obtain ⟨t, rfl⟩ := hv
    have I1 : Inv X pins σ H { s with heap := h', toks := tk } := I.turned (fun b o hb e => kk b o (by simpa using hb) e) f0 f1 f3 f4 f5
    refine ⟨_, rfl, go_of (s := { s with heap := h', toks := tk }) (n := "range_iterator") st' rfl rfl (by decide) ⟨.int (lo + i), H, I1, ⟨t, ?_⟩, ⟨rfl, rfl⟩, st', fun b hb => (hf b hb).1⟩⟩
    rw [Int.mul_one]
  done := by
    intro X hP hw hK hc i pins s σ H E I hf st hg
    subst hP hw hK
    obtain ⟨f0, f1, f2, f3, f4, f5⟩ := hf it (by simp)
    exact wpAny_pyNext_range_end (I.ok.hd hc) st (by have : n ≤ i := hg; omega) fun h' eb => ⟨rfl, I.turned (t' := s.toks) (fun b o hb e => eb b o hb e) f0 f1 f3 f4 f5⟩
  self := fun _ _ _ _ _ st h => wpAny_pyIter_rangeiter st h
end L2

namespace L2
open PySem PySem.Spec PyProof.Rows
section
variable {X : Cx} {tg : Expr}
noncomputable def iList (K : PySem.W.Frag) (tl : TE) : TI := fun σ H R => tl σ H fun x H1 => ∃ a, x = .ref a ∧ (∃ xs, SqL K H1 a xs) ∧ R (Itl K a) H1
noncomputable def iTup (K : PySem.W.Frag) (tl : TE) : TI := fun σ H R => tl σ H fun x H1 => ∃ a, x = .ref a ∧ (∃ xs, SqT K H1 a xs) ∧ R (Itt K a) H1
theorem pi_list {l : Expr} {tl : TE} (hl : PE X l tl) : PI X tg l (iList X.K tl) := by
  intro pins s σ H R I h
  refine thn (hl pins s σ H _ I h) fun v s1 ⟨x, H1, I1, r1, q1⟩ => ?_
  obtain ⟨a, e, ⟨xs, hq⟩, q⟩ := q1
  subst e
  cases r1
  obtain ⟨its, rv, p, hz⟩ := I1.list hq
  refine wpAny_pyIter_list p.isList ?_
  refine ⟨s1.heap.objs.size, [s1.heap.objs.size], _, _, H1, rfl, I1.kept (t' := s1.toks) fun b o e => Heap.get?_push_of_some _ e, turn_list a _, ⟨_, Heap.get?_push_size _ rfl, rfl, rfl⟩, fun b hb => ?_, q⟩
  have e : b = s1.heap.objs.size := by simpa using hb
  subst e
  exact I1.fpOk (Nat.le_refl _) (I1.hok.fresh (Nat.le_refl _))
theorem pi_tup {l : Expr} {tl : TE} (hl : PE X l tl) : PI X tg l (iTup X.K tl) := by
  intro pins s σ H R I h
  refine thn (hl pins s σ H _ I h) fun v s1 ⟨x, H1, I1, r1, q1⟩ => ?_
  obtain ⟨a, e, ⟨xs, hq⟩, q⟩ := q1
  subst e
  cases r1
  obtain ⟨its, rv, p, hz⟩ := I1.tuple hq
  refine wpAny_pyIter_tuple (show s1.heap.IsTuple a its.toArray from p) ?_
  refine ⟨s1.heap.objs.size, [s1.heap.objs.size], _, _, H1, rfl, I1.kept (t' := s1.toks) fun b o e => Heap.get?_push_of_some _ e, turn_tuple a _, ⟨_, Heap.get?_push_size _ rfl, rfl, rfl⟩, fun b hb => ?_, q⟩
  have e : b = s1.heap.objs.size := by simpa using hb
  subst e
  exact I1.fpOk (Nat.le_refl _) (I1.hok.fresh (Nat.le_refl _))
/-- a range object just made, walked -/
theorem range_it {pins : List (Addr × Obj)} {σ : St} {H : Hp} {s : Shared} {R : It → Hp → Prop} {E : Value → Shared → Prop} {lo hi : Int} {t u v : Tok} {tk : Nat} (I : Inv X pins σ H s) (h1 : -(2 ^ 62) ≤ lo) (h2 : lo < 2 ^ 62) (h3 : -(2 ^ 62) ≤ hi) (h4 : hi < 2 ^ 62)
    (q : R (Itr lo (hi - lo).toNat) H) : wpAny (model X.prog X.w) X.A (pyIter (.ref s.heap.objs.size)) (PIE X pins σ tg R) E { s with heap := s.heap.push { cls := .type "range", data := .fields #[.int lo t, .int hi u, .int 1 v] }, toks := tk } := by
  refine wpAny_pyIter_range (IsRange.new ..) (small_one h1 h2 h3 h4) ?_
  have I1 : Inv X pins σ H { s with heap := s.heap.push { cls := .type "range", data := .fields #[.int lo t, .int hi u, .int 1 v] }, toks := tk } := I.kept fun b o e => Heap.get?_push_of_some _ e
  refine ⟨(s.heap.push { cls := .type "range", data := .fields #[.int lo t, .int hi u, .int 1 v] }).objs.size, [(s.heap.push { cls := .type "range", data := .fields #[.int lo t, .int hi u, .int 1 v] }).objs.size], _, _, H, rfl,
    I1.kept (t' := tk) fun b o e => Heap.get?_push_of_some _ e, turn_range _ lo (hi - lo).toNat, ?_, fun b hb => ?_, q⟩
  · have e1 : lo + ((0 : Nat) : Int) * 1 = lo := by simp
    have e2 : (((hi - lo).toNat : Nat) : Int) - ((0 : Nat) : Int) = Builtin.Range.rangeSize lo hi 1 := by rw [rangeSize_one]; split <;> omega
    show IsRangeIter _ _ (lo + ((0 : Nat) : Int) * 1) ((((hi - lo).toNat : Nat) : Int) - ((0 : Nat) : Int)) 1
    rw [e1, e2]
    exact Heap.get?_push_size _ rfl
  · have e : b = (s.heap.push { cls := .type "range", data := .fields #[.int lo t, .int hi u, .int 1 v] }).objs.size := by simpa using hb
    subst e
    exact I1.fpOk (Nat.le_refl _) (I1.hok.fresh (Nat.le_refl _))
noncomputable def iRng1 (ta : TA) : TI := fun σ H R => ta σ H fun vs H1 => ∃ j : Int, vs = [.int j] ∧ -(2 ^ 62) ≤ j ∧ j < 2 ^ 62 ∧ R (Itr 0 j.toNat) H1
noncomputable def iRng2 (ta : TA) : TI := fun σ H R => ta σ H fun vs H1 => ∃ i j : Int, vs = [.int i, .int j] ∧ (-(2 ^ 62) ≤ i ∧ i < 2 ^ 62 ∧ -(2 ^ 62) ≤ j ∧ j < 2 ^ 62) ∧ R (Itr i (j - i).toNat) H1
theorem pi_range1 {a : Expr} {ta : TA} {p pos : Pos} (hg : Gl X "range") (hm : X.mg "range" = none) (ha : PA X [a] ta) (hs : starEach [a] X.env = [(false, eval a X.env)] := by rfl) : PI X tg (.Call (.Name "range" p) [a] [] pos) (iRng1 ta) := by
  intro pins s σ H R I h
  refine Call_ (ld_blt I hg hm boot_range (PyProof.Rows.callWith_type1 (thn (ha pos pins s σ H _ I h) fun us s1 ⟨vs, H1, I1, r1, q1⟩ => ?_) hs rfl))
  obtain ⟨j, e, q1, q2, q⟩ := q1
  subst e
  cases r1 with
  | cons r rr =>
    cases rr
    obtain ⟨t, rfl⟩ := r
    exact call_range_1 (range_it I1 (by omega) (by omega) q1 q2 (by simpa using q))
theorem pi_range2 {a b : Expr} {ta : TA} {p pos : Pos} (hg : Gl X "range") (hm : X.mg "range" = none) (ha : PA X [a, b] ta) (hs : starEach [a, b] X.env = [(false, eval a X.env), (false, eval b X.env)] := by rfl) (hs2 : starEach [b] X.env = [(false, eval b X.env)] := by rfl) :
    PI X tg (.Call (.Name "range" p) [a, b] [] pos) (iRng2 ta) := by
  intro pins s σ H R I h
  refine Call_ (ld_blt I hg hm boot_range (PyProof.Rows.callWith_type1 (thn (ha pos pins s σ H _ I h) fun us s1 ⟨vs, H1, I1, r1, q1⟩ => ?_) (by rw [hs, hs2]) (by rw [hs2]; rfl)))
  obtain ⟨i, j, e, ⟨q1, q2, q3, q4⟩, q⟩ := q1
  subst e
  cases r1 with
  | cons r rr =>
    cases rr with
    | cons r' rr =>
      cases rr
      obtain ⟨t, rfl⟩ := r
      obtain ⟨t', rfl⟩ := r'
      exact call_range_2 (range_it I1 q1 q2 q3 q4 q)

/-! ### for -/
/-- W: the invariant by the turn and a measure; N: what the body is to reach -/
noncomputable def tFor (wi : TI) (g : TG) (tb : TS) : TS := fun D σ H => wi σ H fun J H1 => ∃ W : Nat → Nat → St → Hp → Prop, (∃ m, W 0 m σ H1) ∧ ∀ i m σ H, W i m σ H →
  (J.stop i H ∧ D.nx σ H) ∨ (J.go i H ∧ ∃ N : St → Hp → Prop, (∀ σ' H', N σ' H' → ∃ m', m' < m ∧ W (i + 1) m' σ' H') ∧ ∀ x H', J.yld i H x H' → g x σ H' fun σ2 H2 => tb { D with nx := N, ct := N, bk := D.nx } σ2 H2)
/-- the records at fp as they stand -/
noncomputable def pinsAt (fp : List Addr) (h : Heap) : List (Addr × Obj) := fp.filterMap fun b => (h.get? b).map fun o => (b, o)
theorem mem_pinsAt {fp : List Addr} {h : Heap} {b : Addr} {o : Obj} (hb : b ∈ fp) (e : h.get? b = some o) : (b, o) ∈ pinsAt fp h := List.mem_filterMap.mpr ⟨b, hb, by rw [e]; rfl⟩
theorem of_pinsAt {fp : List Addr} {h : Heap} {p : Addr × Obj} (hp : p ∈ pinsAt fp h) : p.1 ∈ fp ∧ h.get? p.1 = some p.2 := by
  obtain ⟨b, hb, e⟩ := List.mem_filterMap.mp hp
  cases q : h.get? b with
  | none => rw [q] at e; cases e
  | some o =>
    rw [q] at e
    have e' : (b, o) = p := Option.some.inj e
    subst e'
    exact ⟨hb, q⟩
theorem Inv.pinned {pins : List (Addr × Obj)} {σ : St} {H : Hp} {s : Shared} {fp : List Addr} (I : Inv X pins σ H s) (hf : ∀ b ∈ fp, FpOk X pins H b) (ho : ∀ b ∈ fp, ∃ o, s.heap.get? b = some o ∧ ∀ v, o.data ≠ .cell v) : Inv X (pins ++ pinsAt fp s.heap) σ H s :=
  I.pins_of fun p hp => (List.mem_append.mp hp).elim (fun z => I.pin p (List.mem_append_right _ z)) fun z => by
    obtain ⟨hb, e⟩ := of_pinsAt z
    obtain ⟨f0, f1, f2, _⟩ := hf p.1 hb
    obtain ⟨o, e', d⟩ := ho p.1 hb
    rw [e] at e'; cases e'
    exact ⟨e, f0, f1, f2, d⟩
theorem Inv.unpinned {pins pl : List (Addr × Obj)} {σ : St} {H : Hp} {s : Shared} (I : Inv X (pins ++ pl) σ H s) : Inv X pins σ H s := I.pins_of fun p hp => I.pin p (List.mem_append_right _ (List.mem_append_left _ hp))
theorem ps_for {iter : Expr} {body : List Stmt} {wi : TI} {g : TG} {tb : TS} {pos : Pos} (hp : PassesOwn (model X.prog X.w) X.A X.env X.xe) (hc : X.calm = true) (hi : PI X tg iter wi) (hg : PG X tg g) (hb : PSs X body tb)
    (hs : ∀ x, foldedSetIterable iter X.env x = pure x := by intro _; rfl) : PS X (.For tg iter body [] pos) (tFor wi g tb) := by
  intro pins s σ H D I h
  refine wpAny_For (thn (hi pins s σ H _ I h) fun v s1 h1 => thn h1 fun itv s2 h2 => ?_) hs
  obtain ⟨it, fp, tn, J, H2, e, I2, T, st2, f2, W, ⟨m0, w0⟩, turn⟩ := h2
  subst e
  -- what stays true of the iterator's objects through the loop
  have stat : ∀ {H' : Hp}, (∀ b ∈ fp, H' b = none) → ∀ b ∈ fp, FpOk X pins H' b := fun hn b hb => ⟨hn b hb, (f2 b hb).2⟩
  refine codeAny_forLoop_any (fun n s' => ∃ i σ' H', Inv X pins σ' H' s' ∧ tn i s'.heap ∧ (∀ b ∈ fp, H' b = none) ∧ W i n σ' H') ?_ m0 ⟨0, σ, H2, I2, st2, fun b hb => (f2 b hb).1, w0⟩
  rintro n s3 ⟨i, σ3, H3, I3, st3, fr3, w3⟩
  rcases turn i n σ3 H3 w3 with ⟨stop, qn⟩ | ⟨go, N, hN, step⟩
  · refine wpAny_passesOwn hp (thn (T.done X rfl rfl rfl hc i pins s3 σ3 H3 X.xe I3 (stat fr3) st3 stop) fun r s4 ⟨hr, I4⟩ => ?_)
    subst hr
    exact wpAny_execs_nil ⟨σ3, H3, I4, qn⟩
  · refine wpAny_passesOwn hp (thn (T.item X rfl rfl rfl hc i pins s3 σ3 H3 X.xe I3 (stat fr3) st3 go) fun r s4 ⟨u, hr, h4⟩ => ?_)
    subst hr
    refine wpAny_passesOwn hp (thn h4 fun _ s5 ⟨x, H5, I5, r5, y5, st5, fr5⟩ => ?_)
    have I5' := I5.pinned (stat fr5) (T.obj _ _ st5)
    refine wpAny_passesOwn hp (thn (hg _ s5 σ3 H5 x u _ I5' r5 (step x H5 y5)) fun _ s6 ⟨σ6, H6, I6, q6⟩ => ?_)
    refine wpAny_passesOwn hp (thn (hb _ s6 σ6 H6 _ I6 q6) fun f s7 q7 => ?_)
    have again : ∀ {σ7 : St} {H7 : Hp}, Inv X (pins ++ pinsAt fp s5.heap) σ7 H7 s7 → N σ7 H7 → ∃ m, m < n ∧ ∃ i σ' H', Inv X pins σ' H' s7 ∧ tn i s7.heap ∧ (∀ b ∈ fp, H' b = none) ∧ W i m σ' H' := fun {σ7 H7} I7 n7 => by
      obtain ⟨m', hm, w7⟩ := hN σ7 H7 n7
      refine ⟨m', hm, i + 1, σ7, H7, I7.unpinned, T.keep _ _ _ st5 fun b hb o e => (I7.pin (b, o) (List.mem_append_right _ (List.mem_append_right _ (mem_pinsAt hb e)))).1, fun b hb => ?_, w7⟩
      obtain ⟨o, e, d⟩ := T.obj _ _ st5 b hb
      exact (I7.pin (b, o) (List.mem_append_right _ (List.mem_append_right _ (mem_pinsAt hb e)))).2.1
    cases f with
    | next => obtain ⟨σ7, H7, I7, n7⟩ := q7; exact again I7 n7
    | cont => obtain ⟨σ7, H7, I7, n7⟩ := q7; exact again I7 n7
    | brk => obtain ⟨σ7, H7, I7, q7⟩ := q7; exact ⟨σ7, H7, I7.unpinned, q7⟩
    | ret v => obtain ⟨x7, σ7, H7, I7, r7, q7⟩ := q7; exact ⟨x7, σ7, H7, I7.unpinned, r7, q7⟩
end

/-! ### the forms one uses -/
/-- over a list that the body leaves as it is -/
theorem for_list {K : PySem.W.Frag} {a : Addr} {xs : List V} {g : TG} {tb : TS} {D : Ends} {σ : St} {H : Hp} (Pv : Nat → St → Hp → Prop) (h0 : Pv 0 σ H) (hl : ∀ i σ H, i ≤ xs.length → Pv i σ H → SqL K H a xs)
    (hs : ∀ i x σ H, xs[i]? = some x → Pv i σ H → g x σ H fun σ2 H2 => tb { D with nx := Pv (i + 1), ct := Pv (i + 1), bk := D.nx } σ2 H2) (hd : ∀ σ H, Pv xs.length σ H → D.nx σ H) :
    ∃ W : Nat → Nat → St → Hp → Prop, (∃ m, W 0 m σ H) ∧ ∀ i m σ H, W i m σ H →
      ((Itl K a).stop i H ∧ D.nx σ H) ∨ ((Itl K a).go i H ∧ ∃ N : St → Hp → Prop, (∀ σ' H', N σ' H' → ∃ m', m' < m ∧ W (i + 1) m' σ' H') ∧ ∀ x H', (Itl K a).yld i H x H' → g x σ H' fun σ2 H2 => tb { D with nx := N, ct := N, bk := D.nx } σ2 H2) := by
  refine ⟨fun i m σ H => m = xs.length - i ∧ i ≤ xs.length ∧ Pv i σ H, ⟨xs.length, by simp, Nat.zero_le _, h0⟩, ?_⟩
  rintro i m σ H ⟨rfl, hi, p⟩
  have q := hl i σ H hi p
  by_cases hlt : i < xs.length
  · refine .inr ⟨⟨xs, xs[i], q, by simp [hlt]⟩, Pv (i + 1), fun σ' H' p' => ⟨xs.length - (i + 1), by omega, rfl, hlt, p'⟩, fun x H' y => ?_⟩
    obtain ⟨e, y⟩ := y
    subst e
    exact hs i x σ _ (y xs q) p
  · have e : i = xs.length := by omega
    subst e
    exact .inl ⟨⟨xs, q, Nat.le_refl _⟩, hd σ H p⟩
theorem for_tup {K : PySem.W.Frag} {a : Addr} {xs : List V} {g : TG} {tb : TS} {D : Ends} {σ : St} {H : Hp} (Pv : Nat → St → Hp → Prop) (h0 : Pv 0 σ H) (hl : ∀ i σ H, i ≤ xs.length → Pv i σ H → SqT K H a xs)
    (hs : ∀ i x σ H, xs[i]? = some x → Pv i σ H → g x σ H fun σ2 H2 => tb { D with nx := Pv (i + 1), ct := Pv (i + 1), bk := D.nx } σ2 H2) (hd : ∀ σ H, Pv xs.length σ H → D.nx σ H) :
    ∃ W : Nat → Nat → St → Hp → Prop, (∃ m, W 0 m σ H) ∧ ∀ i m σ H, W i m σ H →
      ((Itt K a).stop i H ∧ D.nx σ H) ∨ ((Itt K a).go i H ∧ ∃ N : St → Hp → Prop, (∀ σ' H', N σ' H' → ∃ m', m' < m ∧ W (i + 1) m' σ' H') ∧ ∀ x H', (Itt K a).yld i H x H' → g x σ H' fun σ2 H2 => tb { D with nx := N, ct := N, bk := D.nx } σ2 H2) := by
  refine ⟨fun i m σ H => m = xs.length - i ∧ i ≤ xs.length ∧ Pv i σ H, ⟨xs.length, by simp, Nat.zero_le _, h0⟩, ?_⟩
  rintro i m σ H ⟨rfl, hi, p⟩
  have q := hl i σ H hi p
  by_cases hlt : i < xs.length
  · refine .inr ⟨⟨xs, xs[i], q, by simp [hlt]⟩, Pv (i + 1), fun σ' H' p' => ⟨xs.length - (i + 1), by omega, rfl, hlt, p'⟩, fun x H' y => ?_⟩
    obtain ⟨e, y⟩ := y
    subst e
    exact hs i x σ _ (y xs q) p
  · have e : i = xs.length := by omega
    subst e
    exact .inl ⟨⟨xs, q, Nat.le_refl _⟩, hd σ H p⟩
theorem for_range {lo : Int} {n : Nat} {g : TG} {tb : TS} {D : Ends} {σ : St} {H : Hp} (Pv : Nat → St → Hp → Prop) (h0 : Pv 0 σ H)
    (hs : ∀ i σ H, i < n → Pv i σ H → g (.int (lo + i)) σ H fun σ2 H2 => tb { D with nx := Pv (i + 1), ct := Pv (i + 1), bk := D.nx } σ2 H2) (hd : ∀ σ H, Pv n σ H → D.nx σ H) :
    ∃ W : Nat → Nat → St → Hp → Prop, (∃ m, W 0 m σ H) ∧ ∀ i m σ H, W i m σ H →
      ((Itr lo n).stop i H ∧ D.nx σ H) ∨ ((Itr lo n).go i H ∧ ∃ N : St → Hp → Prop, (∀ σ' H', N σ' H' → ∃ m', m' < m ∧ W (i + 1) m' σ' H') ∧ ∀ x H', (Itr lo n).yld i H x H' → g x σ H' fun σ2 H2 => tb { D with nx := N, ct := N, bk := D.nx } σ2 H2) := by
  refine ⟨fun i m σ H => m = n - i ∧ i ≤ n ∧ Pv i σ H, ⟨n, by simp, Nat.zero_le _, h0⟩, ?_⟩
  rintro i m σ H ⟨rfl, hi, p⟩
  by_cases hlt : i < n
  · refine .inr ⟨hlt, Pv (i + 1), fun σ' H' p' => ⟨n - (i + 1), by omega, rfl, hlt, p'⟩, fun x H' y => ?_⟩
    obtain ⟨e, y⟩ := y
    subst e y
    exact hs i σ _ hlt p
  · have e : i = n := by omega
    subst e
    exact .inl ⟨Nat.le_refl _, hd σ H p⟩
end L2

namespace L2
open PySem PySem.Spec PyProof.Rows

noncomputable abbrev R2 := V → V → Hp → VK → Prop
/-- a two-place operation on values: f is binaryOp op, inplaceOp op or compareOp op -/
noncomputable def OpR (X : Cx) (f : Value → Value → Sem Value) (r : R2) : Prop :=
  ∀ (pins : List (Addr × Obj)) (s : Shared) (σ : St) (H : Hp) (x y : V) (v u : Value) (Q : VK), Inv X pins σ H s → RelV x v → RelV y u → r x y H Q →
    wpAny (model X.prog X.w) X.A (f v u) (EP X pins σ Q) X.xe s
/-- a one-place operation -/
noncomputable def UnR (X : Cx) (f : Value → Sem Value) (r : V → Hp → VK → Prop) : Prop :=
  ∀ (pins : List (Addr × Obj)) (s : Shared) (σ : St) (H : Hp) (x : V) (v : Value) (Q : VK), Inv X pins σ H s → RelV x v → r x H Q →
    wpAny (model X.prog X.w) X.A (f v) (EP X pins σ Q) X.xe s
/-- a call of a value that is known (a builtin, a type) with values -/
noncomputable def CallR (X : Cx) (f : Value) (r : List V → Hp → VK → Prop) : Prop :=
  ∀ (pins : List (Addr × Obj)) (s : Shared) (σ : St) (H : Hp) (xs : List V) (us : List Value) (Q : VK), Inv X pins σ H s → Vals xs us → r xs H Q →
    wpAny (model X.prog X.w) X.A (call f us) (EP X pins σ Q) X.xe s
noncomputable def tOp (r : R2) (ta tb : TE) : TE := fun σ H Q => ta σ H fun x H1 => tb σ H1 fun y H2 => r x y H2 Q
noncomputable def tUn (r : V → Hp → VK → Prop) (ta : TE) : TE := fun σ H Q => ta σ H fun x H1 => r x H1 Q
/-- ints in, under C, and a value out -/
noncomputable def rI (C : Int → Int → Prop) (g : Int → Int → V) : R2 := fun x y H Q => ∃ i j, x = .int i ∧ y = .int j ∧ C i j ∧ Q (g i j) H
noncomputable def rI0 (g : Int → Int → V) : R2 := fun x y H Q => ∃ i j, x = .int i ∧ y = .int j ∧ Q (g i j) H
noncomputable def rU (g : Int → V) : V → Hp → VK → Prop := fun x H Q => ∃ i, x = .int i ∧ Q (g i) H

section
variable {X : Cx} {a b c : Expr} {ta tb tc : TE} {pos : Pos}

theorem binT (ha : PE X a ta) (hb : PE X b tb) {pins : List (Addr × Obj)} {s : Shared} {σ : St} {H : Hp} {R : V → V → Hp → Prop} (I : Inv X pins σ H s)
    (h : ta σ H fun x H1 => tb σ H1 fun y H2 => R x y H2) {Q : Value → Shared → Prop} {f : Value → Value → Sem Value}
    (hf : ∀ v u s2 x y H2, Inv X pins σ H2 s2 → RelV x v → RelV y u → R x y H2 → wpAny (model X.prog X.w) X.A (f v u) Q X.xe s2) :
    wpAny (model X.prog X.w) X.A (eval a X.env) (fun v s₁ => wpAny (model X.prog X.w) X.A (eval b X.env) (fun u s₂ => wpAny (model X.prog X.w) X.A (f v u) Q X.xe s₂) X.xe s₁) X.xe s := by
  refine thn (ha pins s σ H _ I h) fun v s1 ⟨x, H1, I1, r1, q1⟩ => ?_
  refine thn (hb pins s1 σ H1 _ I1 q1) fun u s2 ⟨y, H2, I2, r2, q2⟩ => ?_
  exact hf v u s2 x y H2 I2 r1 r2 q2

theorem pe_op {op : Operator} {r : R2} (ho : OpR X (binaryOp op) r) (ha : PE X a ta) (hb : PE X b tb) : PE X (.BinOp a op b pos) (tOp r ta tb) := by
  intro pins s σ H Q I h
  exact wpAny_BinOp (binT ha hb I h fun v u s2 x y H2 I2 rx ry q => ho pins s2 σ H2 x y v u Q I2 rx ry q)
theorem pe_un {op : UnaryOp} {r : V → Hp → VK → Prop} (ho : UnR X (unaryOp op) r) (ha : PE X a ta) : PE X (.UnaryOp op a pos) (tUn r ta) := by
  intro pins s σ H Q I h
  exact UnaryOp_ (thn (ha pins s σ H _ I h) fun v s1 ⟨x, H1, I1, r1, q1⟩ => ho pins s1 σ H1 x v Q I1 r1 q1)
/-! ### ints -/
theorem opI {f : Value → Value → Sem Value} {C : Int → Int → Prop} {g : Int → Int → Int}
    (rule : ∀ (i j : Int) (t u : Tok) (s : Shared) (Q : Value → Shared → Prop) (E : Value → Shared → Prop), C i j → Q (.int (g i j) s.toks) { s with toks := s.toks + 1 } → wpAny (model X.prog X.w) X.A (f (.int i t) (.int j u)) Q E s) :
    OpR X f (rI C fun i j => .int (g i j)) := by
  intro pins s σ H x y v u Q I rx ry h
  obtain ⟨i, j, rfl, rfl, hc, q⟩ := h
  obtain ⟨t, rfl⟩ := rx
  obtain ⟨t', rfl⟩ := ry
  exact rule i j t t' s _ _ hc ⟨.int (g i j), H, I.tok _, ⟨_, rfl⟩, q⟩
theorem opI0 {f : Value → Value → Sem Value} {g : Int → Int → Int}
    (rule : ∀ (i j : Int) (t u : Tok) (s : Shared) (Q : Value → Shared → Prop) (E : Value → Shared → Prop), Q (.int (g i j) s.toks) { s with toks := s.toks + 1 } → wpAny (model X.prog X.w) X.A (f (.int i t) (.int j u)) Q E s) :
    OpR X f (rI0 fun i j => .int (g i j)) := by
  intro pins s σ H x y v u Q I rx ry h
  obtain ⟨i, j, rfl, rfl, q⟩ := h
  obtain ⟨t, rfl⟩ := rx
  obtain ⟨t', rfl⟩ := ry
  exact rule i j t t' s _ _ ⟨.int (g i j), H, I.tok _, ⟨_, rfl⟩, q⟩
theorem opB0 {f : Value → Value → Sem Value} {g : Int → Int → Bool}
    (rule : ∀ (i j : Int) (t u : Tok) (s : Shared) (Q : Value → Shared → Prop) (E : Value → Shared → Prop), Q (.bool (g i j)) s → wpAny (model X.prog X.w) X.A (f (.int i t) (.int j u)) Q E s) :
    OpR X f (rI0 fun i j => .bl (g i j)) := by
  intro pins s σ H x y v u Q I rx ry h
  obtain ⟨i, j, rfl, rfl, q⟩ := h
  obtain ⟨t, rfl⟩ := rx
  obtain ⟨t', rfl⟩ := ry
  exact rule i j t t' s _ _ ⟨.bl (g i j), H, I, rfl, q⟩

noncomputable def CDiv (i j : Int) : Prop := 0 < j ∧ j < 1073741824
noncomputable def CPow (i j : Int) : Prop := 0 ≤ j ∧ j ≤ 1000000 ∧ i.natAbs < 2 ^ 64
noncomputable def CMul (i j : Int) : Prop := (-(2 ^ 64) < i ∧ i < 2 ^ 64) ∨ (-(2 ^ 64) < j ∧ j < 2 ^ 64)
theorem CMul.ok {i j : Int} (h : CMul i j) : IntMulOk i j := by
  rcases h with ⟨h1, h2⟩ | ⟨h1, h2⟩
  · exact .of_left (intBits_le_64 h1 h2)
  · exact .of_right (intBits_le_64 h1 h2)
theorem op_add : OpR X (binaryOp .Add) (rI0 fun i j => .int (i + j)) := opI0 fun _ _ _ _ _ _ _ q => add_int q
theorem op_sub : OpR X (binaryOp .Sub) (rI0 fun i j => .int (i - j)) := opI0 fun _ _ _ _ _ _ _ q => sub_int q
theorem op_mul : OpR X (binaryOp .Mult) (rI CMul fun i j => .int (i * j)) := opI fun _ _ _ _ _ _ _ hc q => mul_int q hc.ok
/-- // by a positive divisor -/
theorem op_fdiv : OpR X (binaryOp .FloorDiv) (rI CDiv fun i j => .int (i / j)) := opI fun i j _ _ _ _ _ hc q => by
  have h1 : (0 : Int) < j := hc.1
  have h2 : j < 1073741824 := hc.2
  exact floordiv_int (by omega) (by rw [Int.fdiv_eq_ediv_of_nonneg i (by omega)]; exact q) (.inl (PyProof.noPylong_small (by omega)))
/-- % by a positive divisor of any size -/
theorem op_mod : OpR X (binaryOp .Mod) (rI (fun _ j => 0 < j) fun i j => .int (i % j)) := opI fun i j _ _ _ _ _ hc q => by
  have h1 : (0 : Int) < j := hc
  exact mod_int' (by omega) (by rw [Int.fmod_eq_emod_of_nonneg i (by omega)]; exact q)
theorem op_pow : OpR X (binaryOp .Pow) (rI CPow fun i j => .int (i ^ j.toNat)) := opI fun _ _ _ _ _ _ _ hc q => pow_int_small hc.1 hc.2.1 hc.2.2 q
theorem unI {f : Value → Sem Value} {g : Int → Int}
    (rule : ∀ (i : Int) (t : Tok) (s : Shared) (Q : Value → Shared → Prop) (E : Value → Shared → Prop), Q (.int (g i) s.toks) { s with toks := s.toks + 1 } → wpAny (model X.prog X.w) X.A (f (.int i t)) Q E s) :
    UnR X f (rU fun i => .int (g i)) := by
  intro pins s σ H x v Q I rx h
  obtain ⟨i, rfl, q⟩ := h
  obtain ⟨t, rfl⟩ := rx
  exact rule i t s _ _ ⟨.int (g i), H, I.tok _, ⟨_, rfl⟩, q⟩
theorem un_neg : UnR X (unaryOp .USub) (rU fun i => .int (-i)) := unI fun _ _ _ _ _ q => neg_int q
end

/-! ### comparisons -/
/-- the scalars that == tells apart as data does -/
noncomputable def scal : V → V → Bool
  | .non, .non => true | .non, .int _ => true | .int _, .non => true | .non, .bl _ => true | .bl _, .non => true | .non, .str _ => true | .str _, .non => true
  | .int _, .int _ => true | .bl _, .bl _ => true | .str _, .str _ => true | .byt _, .byt _ => true
  | .int _, .str _ => true | .str _, .int _ => true | .bl _, .str _ => true | .str _, .bl _ => true
  | _, _ => false
noncomputable def rEq : R2 := fun x y H Q => scal x y = true ∧ Q (.bl (decide (x = y))) H
noncomputable def rNe : R2 := fun x y H Q => scal x y = true ∧ Q (.bl (!decide (x = y))) H

theorem dec_int {i j : Int} : decide (V.int i = V.int j) = (i == j) := by
  rw [Bool.eq_iff_iff]
  simp
theorem dec_bl {i j : Bool} : decide (V.bl i = V.bl j) = (i == j) := by
  rw [Bool.eq_iff_iff]
  simp
theorem dec_str {i j : Str} : decide (V.str i = V.str j) = (i == j) := by
  rw [Bool.eq_iff_iff]
  simp
theorem dec_byt {i j : Array UInt8} : decide (V.byt i = V.byt j) = (i.toList == j.toList) := by
  rw [Bool.eq_iff_iff]
  cases i
  cases j
  simp

section
variable {X : Cx} {a b c : Expr} {ta tb tc : TE} {pos : Pos}
theorem fin_bl {pins : List (Addr × Obj)} {σ : St} {H : Hp} {s : Shared} {Q : VK} {k k' : Bool} (I : Inv X pins σ H s) (q : Q (.bl k) H) (e : k = k') : EP X pins σ Q (.bool k') s := by
  subst e
  exact ⟨.bl k, H, I, rfl, q⟩
theorem op_eq : OpR X (compareOp .Eq) rEq := by
  intro pins s σ H x y v u Q I rx ry h
  obtain ⟨hs, q⟩ := h
  cases x with
  | non =>
    cases rx
    cases y with
    | non => cases ry; exact PySem.EqNone.eq_none_none (fin_bl I q (by simp))
    | bl j => cases ry; exact PySem.EqNone.eq_none_bool (fin_bl I q (by simp))
    | int j => obtain ⟨t', rfl⟩ := ry; exact PySem.EqNone.eq_none_int (fin_bl I q (by simp))
    | str j => obtain ⟨t', rfl⟩ := ry; exact PySem.EqNone.eq_none_str (fin_bl I q (by simp))
    | _ => exact absurd (show false = true from hs) Bool.false_ne_true
  | bl i =>
    cases rx
    cases y with
    | non => cases ry; exact PySem.EqNone.eq_bool_none (fin_bl I q (by simp))
    | bl j => cases ry; exact eq_bool (fin_bl I q dec_bl)
    | str j => obtain ⟨t', rfl⟩ := ry; exact PySem.EqMixed.eq_bool_str (fin_bl I q (by simp))
    | _ => exact absurd (show false = true from hs) Bool.false_ne_true
  | int i =>
    obtain ⟨t, rfl⟩ := rx
    cases y with
    | non => cases ry; exact PySem.EqNone.eq_int_none (fin_bl I q (by simp))
    | int j => obtain ⟨t', rfl⟩ := ry; exact eq_int (fin_bl I q dec_int)
    | str j => obtain ⟨t', rfl⟩ := ry; exact PySem.EqMixed.eq_int_str (fin_bl I q (by simp))
    | _ => exact absurd (show false = true from hs) Bool.false_ne_true
  | str i =>
    obtain ⟨t, rfl⟩ := rx
    cases y with
    | non => cases ry; exact PySem.EqNone.eq_str_none (fin_bl I q (by simp))
    | bl j => cases ry; exact PySem.EqMixed.eq_str_bool (fin_bl I q (by simp))
    | int j => obtain ⟨t', rfl⟩ := ry; exact PySem.EqMixed.eq_str_int (fin_bl I q (by simp))
    | str j => obtain ⟨t', rfl⟩ := ry; exact eq_str (fin_bl I q dec_str)
    | _ => exact absurd (show false = true from hs) Bool.false_ne_true
  | byt i =>
    obtain ⟨t, rfl⟩ := rx
    cases y with
    | byt j => obtain ⟨t', rfl⟩ := ry; exact PySem.W.eq_bytes (fin_bl I q dec_byt)
    | _ => exact absurd (show false = true from hs) Bool.false_ne_true
  | _ => cases y <;> exact absurd (show false = true from hs) Bool.false_ne_true
theorem op_ne : OpR X (compareOp .NotEq) rNe := by
  intro pins s σ H x y v u Q I rx ry h
  obtain ⟨hs, q⟩ := h
  cases x with
  | non =>
    cases rx
    cases y with
    | non => cases ry; exact PySem.EqNone.ne_none_none (fin_bl I q (by simp))
    | bl j => cases ry; exact PySem.EqNone.ne_none_bool (fin_bl I q (by simp))
    | int j => obtain ⟨t', rfl⟩ := ry; exact PySem.EqNone.ne_none_int (fin_bl I q (by simp))
    | str j => obtain ⟨t', rfl⟩ := ry; exact PySem.EqNone.ne_none_str (fin_bl I q (by simp))
    | _ => exact absurd (show false = true from hs) Bool.false_ne_true
  | bl i =>
    cases rx
    cases y with
    | non => cases ry; exact PySem.EqNone.ne_bool_none (fin_bl I q (by simp))
    | bl j => cases ry; exact ne_bool (fin_bl I q (congrArg not dec_bl))
    | str j => obtain ⟨t', rfl⟩ := ry; exact PySem.EqMixed.ne_bool_str (fin_bl I q (by simp))
    | _ => exact absurd (show false = true from hs) Bool.false_ne_true
  | int i =>
    obtain ⟨t, rfl⟩ := rx
    cases y with
    | non => cases ry; exact PySem.EqNone.ne_int_none (fin_bl I q (by simp))
    | int j => obtain ⟨t', rfl⟩ := ry; exact ne_int (fin_bl I q (congrArg not dec_int))
    | str j => obtain ⟨t', rfl⟩ := ry; exact PySem.EqMixed.ne_int_str (fin_bl I q (by simp))
    | _ => exact absurd (show false = true from hs) Bool.false_ne_true
  | str i =>
    obtain ⟨t, rfl⟩ := rx
    cases y with
    | non => cases ry; exact PySem.EqNone.ne_str_none (fin_bl I q (by simp))
    | bl j => cases ry; exact PySem.EqMixed.ne_str_bool (fin_bl I q (by simp))
    | int j => obtain ⟨t', rfl⟩ := ry; exact PySem.EqMixed.ne_str_int (fin_bl I q (by simp))
    | str j => obtain ⟨t', rfl⟩ := ry; exact ne_str (fin_bl I q (congrArg not dec_str))
    | _ => exact absurd (show false = true from hs) Bool.false_ne_true
  | byt i =>
    obtain ⟨t, rfl⟩ := rx
    cases y with
    | byt j => obtain ⟨t', rfl⟩ := ry; exact PySem.W.ne_bytes (fin_bl I q (congrArg not dec_byt))
    | _ => exact absurd (show false = true from hs) Bool.false_ne_true
  | _ => cases y <;> exact absurd (show false = true from hs) Bool.false_ne_true

theorem op_lt : OpR X (compareOp .Lt) (rI0 fun i j => .bl (decide (i < j))) := opB0 fun _ _ _ _ _ _ _ q => lt_int q
theorem op_le : OpR X (compareOp .LtE) (rI0 fun i j => .bl (decide (i ≤ j))) := opB0 fun _ _ _ _ _ _ _ q => le_int q
theorem op_gt : OpR X (compareOp .Gt) (rI0 fun i j => .bl (decide (j < i))) := opB0 fun _ _ _ _ _ _ _ q => gt_int q
theorem op_ge : OpR X (compareOp .GtE) (rI0 fun i j => .bl (decide (j ≤ i))) := opB0 fun _ _ _ _ _ _ _ q => ge_int q
/-- two rules for one operation: by cases -/
theorem OpR.or {f : Value → Value → Sem Value} {r r' : R2} (h : OpR X f r) (h' : OpR X f r') : OpR X f (fun x y H Q => r x y H Q ∨ r' x y H Q) := by
  intro pins s σ H x y v u Q I rx ry q
  rcases q with q | q
  · exact h pins s σ H x y v u Q I rx ry q
  · exact h' pins s σ H x y v u Q I rx ry q

theorem nomark (b : Expr) {op : CmpOp} (h : op ≠ .In := by decide) (h2 : op ≠ .NotIn := by decide) : behindInMarks op b = false := by
  have e1 : (op == CmpOp.In) = false := by cases op <;> first | rfl | exact absurd rfl h
  have e2 : (op == CmpOp.NotIn) = false := by cases op <;> first | rfl | exact absurd rfl h2
  cases b <;> simp [behindInMarks, e1, e2]
/-- a comparison as a value; hm: nomark b, or (for in, not in) by with_unfolding_all rfl -/
theorem pe_cmpR {op : CmpOp} {r : R2} (ho : OpR X (compareOp op) r) (ha : PE X a ta) (hb : PE X b tb) (hm : behindInMarks op b = false) : PE X (.Compare a [op] [b] pos) (tOp r ta tb) := by
  intro pins s σ H Q I h
  exact wpAny_Compare1 (binT ha hb I h fun v u s2 x y H2 I2 rx ry q => ho pins s2 σ H2 x y v u Q I2 rx ry q) hm
/-- a reading of a value as a test -/
noncomputable def tTest (t : TE) : TT := fun σ H Q => t σ H fun x H' => ∃ k, x = .bl k ∧ Q k H'
theorem pt_cmpR {op : CmpOp} {r : R2} (ho : OpR X (compareOp op) r) (ha : PE X a ta) (hb : PE X b tb) (hm : behindInMarks op b = false) : PT X (.Compare a [op] [b] pos) (tTest (tOp r ta tb)) := by
  intro pins s σ H Q I h
  refine wpAny_isTrue_Compare1 (thn (ha pins s σ H _ I h) fun v s1 ⟨x, H1, I1, r1, q1⟩ => thn (hb pins s1 σ H1 _ I1 q1) fun u s2 ⟨y, H2, I2, r2, q2⟩ =>
    thn (ho pins s2 σ H2 x y v u _ I2 r1 r2 q2) fun c s3 ⟨z, H3, I3, r3, k, e, q3⟩ => ?_) hm
  subst e
  cases r3
  exact wpAny_truthy_bool ⟨H3, I3, q3⟩
/-- a op1 b op2 c -/
noncomputable def tChain (r r' : R2) (ta tb tc : TE) : TE := fun σ H Q => ta σ H fun x H1 => tb σ H1 fun y H2 => r x y H2 fun z H3 => ∃ k, z = .bl k ∧
  (if k = true then tc σ H3 fun w' H4 => r' y w' H4 Q else Q (.bl false) H3)
theorem pe_chain {op op' : CmpOp} {r r' : R2} (ho : OpR X (compareOp op) r) (ho' : OpR X (compareOp op') r') (ha : PE X a ta) (hb : PE X b tb) (hc : PE X c tc)
    (hm : lastMarks [op, op'] [b, c] = false := by with_unfolding_all rfl) : PE X (.Compare a [op, op'] [b, c] pos) (tChain r r' ta tb tc) := by
  intro pins s σ H Q I h
  refine Compare_chain (thn (ha pins s σ H _ I h) fun v s1 ⟨x, H1, I1, r1, q1⟩ => chain_link (thn (hb pins s1 σ H1 _ I1 q1) fun u s2 ⟨y, H2, I2, r2, q2⟩ =>
    thn (ho pins s2 σ H2 x y v u _ I2 r1 r2 q2) fun d s3 ⟨z, H3, I3, r3, k, e, q3⟩ => ?_)) hm
  subst e
  cases r3
  refine wpAny_truthy_bool ?_
  cases k with
  | false => exact ite_ff ⟨.bl false, H3, I3, rfl, q3⟩
  | true => exact ite_tt (chain_last (thn (hc pins s3 σ H3 _ I3 q3) fun w' s4 ⟨z', H4, I4, r4, q4⟩ => ho' pins s4 σ H4 y z' u w' Q I4 r2 r4 q4))
theorem line63 : (sizeLine : Nat) < 2 ^ 63 := by rw [sizeLine_eq]; decide
/-! ### scalar builtins, by CallR -/
theorem vals1 {x : V} {us : List Value} (r : Vals [x] us) : ∃ u, us = [u] ∧ RelV x u := by
  cases r with
  | cons r1 r2 => cases r2; exact ⟨_, rfl, r1⟩
theorem vals2 {x y : V} {us : List Value} (r : Vals [x, y] us) : ∃ u w', us = [u, w'] ∧ RelV x u ∧ RelV y w' := by
  cases r with
  | cons r1 r2 =>
    cases r2 with
    | cons r3 r4 => cases r4; exact ⟨_, _, rfl, r1, r3⟩
theorem call_max2 (hc : X.calm = true) : CallR X (.builtin "max") (fun xs H Q => ∃ i j, xs = [.int i, .int j] ∧ Q (.int (if j > i then j else i)) H) := by
  intro pins s σ H xs us Q I r h
  obtain ⟨i, j, rfl, q⟩ := h
  obtain ⟨u, w', rfl, ⟨t, rfl⟩, ⟨t', rfl⟩⟩ := vals2 r
  refine max_two_ints (I.ok.hd hc) fun h' tk k => ⟨_, H, I.kept k, ?_, q⟩
  by_cases hj : j > i
  · rw [if_pos hj, if_pos hj]; exact ⟨_, rfl⟩
  · rw [if_neg hj, if_neg hj]; exact ⟨_, rfl⟩
theorem call_min2 (hc : X.calm = true) : CallR X (.builtin "min") (fun xs H Q => ∃ i j, xs = [.int i, .int j] ∧ Q (.int (if j < i then j else i)) H) := by
  intro pins s σ H xs us Q I r h
  obtain ⟨i, j, rfl, q⟩ := h
  obtain ⟨u, w', rfl, ⟨t, rfl⟩, ⟨t', rfl⟩⟩ := vals2 r
  refine min_two_ints (I.ok.hd hc) fun h' tk k => ⟨_, H, I.kept k, ?_, q⟩
  by_cases hj : j < i
  · rw [if_pos hj, if_pos hj]; exact ⟨_, rfl⟩
  · rw [if_neg hj, if_neg hj]; exact ⟨_, rfl⟩
end
end L2

namespace L2
open PySem PySem.Spec PyProof.Rows

/-! ### an instance, its attributes a map -/
structure ObjM (h : Heap) (x dx C : Addr) (mA : Str → Option Value) : Prop where
  obj : h.get? x = some (PySem.W.instObj C dx)
  ns : h.Ns1 dx mA
  ne : dx ≠ x

theorem lookIn_ns {h : Heap} {dx : Addr} {mA : Str → Option Value} (n : h.Ns1 dx mA) : ∃ od, h.get? dx = some od ∧ ∀ name, PySem.W.lookIn name od = some (mA name) := by
  obtain ⟨o, es, ep, ho, hd, hk, _, hm⟩ := n
  refine ⟨o, ho, fun name => ?_⟩
  have e := hm name
  unfold nsFind findBy at e
  rw [← Array.find?_toList] at e
  unfold PySem.W.lookIn
  rw [hd]
  dsimp only
  split
  · rename_i y q
    rw [q] at e
    exact congrArg some e
  · rename_i q
    rw [q] at e
    have a : es.toList.any (·.refKey) = false := by
      rw [List.any_eq_false]
      intro y hy
      obtain ⟨z, t, hkey⟩ := hk y (Array.mem_toList_iff.mp hy)
      simp [DictEntry.refKey, hkey]
    have a' : ¬ es.toList.any (·.refKey) = true := by rw [a]; exact Bool.false_ne_true
    rw [if_neg a']
    exact congrArg some e

theorem ObjM.look {h : Heap} {x dx C : Addr} {mA : Str → Option Value} (I : ObjM h x dx C mA) : ∃ od, PySem.W.InstAt h x (PySem.W.instObj C dx) C (some od) ∧ ∀ name, PySem.W.lookIn name od = some (mA name) :=
  let ⟨od, ho, hl⟩ := lookIn_ns I.ns
  ⟨od, ⟨I.obj, rfl, rfl, ho⟩, hl⟩

section
variable {prog : Program} {w : World} {A : Around} {E : Value → Shared → Prop} {s : Shared} {K : PySem.W.Frag} {x dx C f : Addr} {mA : Str → Option Value} {name : Str} {v : Value}

end

theorem RelO.none_of {o : Option Value} (r : RelO none o) : o = none := by
  cases o with
  | none => rfl
  | some u => exact (show False from r).elim
section
variable {P : Program} {w : World} {H H' : Hp} {h h' : Heap} {a C dx : Addr} {fs fs' : List (Str × V)}
theorem ins_get (hok : HOk P w H h) (e : H a = some (.ins C dx fs)) : ∃ mA, ObjM h a dx C mA ∧ (∀ f, RelO (fs.lookup f) (mA f)) ∧ PySem.Within mA (fs.map (·.1)) ∧ fs.length ≤ 1000 ∧ H dx = some (.own a) := by
  obtain ⟨d, z, ne, ob, mA, n, r, q⟩ := (show ObjOk P w H h a (.ins C dx fs) from hok a _ e)
  exact ⟨mA, ⟨ob, n, ne⟩, r, q, z, d⟩
end

/-! ### what of the text a class must have -/
structure Cls (K : PySem.W.Frag) (C : Addr) : Prop where
  pg : PySem.W.plainGet K C Str.empty = true
  hd : PySem.W.hasDictIn K C = true
  po : PySem.W.plainOver K C = true
  sa : PySem.W.findIn K (.ref C) "__setattr__" = some (some (.builtin "object.__setattr__"))
theorem Cls.get {K : PySem.W.Frag} {C : Addr} (c : Cls K C) (f : Str) : PySem.W.plainGet K C f = true := c.pg
section
variable {X : Cx} {pins : List (Addr × Obj)} {σ : St} {H : Hp} {s : Shared} {a C dx : Addr} {fs : List (Str × V)} {f : Str} {v : V} {A : Around} {E : Value → Shared → Prop}

/-- e.f where nothing but the object is asked: through attributeBase (super) and the last hold -/
theorem attr_of {prog : Program} {w : World} {env : Env} {e : Expr} {f : Str} {pos : Pos} {s : Shared} {Q : Value → Shared → Prop} (hb : attributeBase e f env (eval e env) = eval e env)
    (h : wpAny (model prog w) A (eval e env) (fun o s₁ => wpAny (model prog w) A (getAttr o f true) Q E s₁) E s) : wpAny (model prog w) A (eval (.Attribute e f pos) env) Q E s :=
  Attribute_any_ h (by rw [arm_eval_Attribute, hb])
end

section
variable {X : Cx} {o e value : Expr} {f : Str} {pos pos' tpos : Pos} {ta tv : TE}
end

/-! ### isinstance -/
section
variable {X : Cx} {pins : List (Addr × Obj)} {σ : St} {H : Hp} {s : Shared} {A : Around} {E : Value → Shared → Prop} {Q : Value → Shared → Prop} {c : Value} {b : Bool}
/-- the type of a value, as the fragment's deciders take it; for an instance its class -/
inductive TyOf (K : PySem.W.Frag) (H : Hp) : V → Value → Prop where
  | non : TyOf K H .non (.type "NoneType")
  | bl (x : Bool) : TyOf K H (.bl x) (.type "bool")
  | int (i : Int) : TyOf K H (.int i) (.type "int")
  | str (x : Str) : TyOf K H (.str x) (.type "str")
  | flt (x : UInt64) : TyOf K H (.flt x) (.type "float")
  | lst {a : Addr} {xs : List V} (e : H a = some (.lst xs)) : TyOf K H (.ref a) (.type "list")
  | frz {a : Addr} {o : Obj} {xs : List V} (e : H a = some (.frz o (.lst xs))) : TyOf K H (.ref a) (.type "list")
  | tup {a : Addr} {xs : List V} (e : H a = some (.tup xs)) : TyOf K H (.ref a) (.type "tuple")
  | dK {a : Addr} {kvs : List (Key × V)} (e : H a = some (.dK kvs)) : TyOf K H (.ref a) (.type "dict")
  | dT {a : Addr} {kvs : List (List Key × V)} (e : H a = some (.dT kvs)) : TyOf K H (.ref a) (.type "dict")
  | ins {a C dx : Addr} {fs : List (Str × V)} (e : H a = some (.ins C dx fs)) (cl : Cls K C) (ha : PySem.W.findIn K (.ref C) "__class__" = some (some (.builtin "object.__class__")))
      (hn : PySem.W.specialIn K (.builtin "object.__class__") "__get__" = some (some (.builtin "getset_descriptor.__get__"))) (htk : PySem.W.takesIn K (.builtin "object.__class__") = some true)
      (hm : PySem.W.mroIn K C (.type "object") = some true) : TyOf K H (.ref a) (.ref C)
/-- isinstance(x, c) for one class c, a built-in or an own one: kitOne's answer -/
theorem isinst_ok {x : V} {u t : Value} (I : Inv X pins σ H s) (rx : RelV x u) (ty : TyOf X.K H x t) (e : PySem.W.kitOne X.K t c = some b) (h : ∀ tk, Q (.bool b) { s with toks := tk }) :
    wpAny (model X.prog X.w) A (call (.builtin "isinstance") [u, c]) Q E s := by
  cases ty with
  | non => cases (show u = Value.none from rx); exact PySem.W.kia_one PySem.W.kitx_none I.kIn True.intro e (fun z => nomatch z) h
  | bl y => cases (show u = Value.bool y from rx); exact PySem.W.kia_one PySem.W.kitx_bool I.kIn True.intro e (fun z => nomatch z) h
  | int i => obtain ⟨t, q⟩ := (show ∃ t, u = Value.int i t from rx); cases q; exact PySem.W.kia_one PySem.W.kitx_int I.kIn True.intro e (fun z => nomatch z) h
  | str y => obtain ⟨t, q⟩ := (show ∃ t, u = Value.str y t from rx); cases q; exact PySem.W.kia_one PySem.W.kitx_str I.kIn True.intro e (fun z => nomatch z) h
  | flt y => obtain ⟨t, q⟩ := (show ∃ t, u = Value.float y t from rx); cases q; exact PySem.W.kia_one PySem.W.kitx_float I.kIn True.intro e (fun z => nomatch z) h
  | @lst a xs ea =>
    cases (show u = Value.ref a from rx)
    obtain ⟨_, _, n, _, h1⟩ := (show ObjOk X.prog X.w H s.heap a (.lst xs) from I.hok a _ ea)
    exact PySem.W.kia_one PySem.W.kitx_list I.kIn ⟨_, h1, rfl⟩ e (fun z => nomatch z) h
  | @frz a ob xs ea =>
    cases (show u = Value.ref a from rx)
    obtain ⟨_, _, _, n, _, h1⟩ := (show ObjOk X.prog X.w H s.heap a (.frz ob (.lst xs)) from I.hok a _ ea)
    exact PySem.W.kia_one PySem.W.kitx_list I.kIn ⟨_, h1, rfl⟩ e (fun z => nomatch z) h
  | @tup a xs ea =>
    cases (show u = Value.ref a from rx)
    obtain ⟨_, _, _, p⟩ := (show ObjOk X.prog X.w H s.heap a (.tup xs) from I.hok a _ ea)
    obtain ⟨o, h1, h2, _⟩ := p
    exact PySem.W.kia_one PySem.W.kitx_tuple I.kIn ⟨o, h1, h2⟩ e (fun z => nomatch z) h
  | @dK a kvs ea =>
    cases (show u = Value.ref a from rx)
    obtain ⟨_, _, vs, _, p⟩ := (show ObjOk X.prog X.w H s.heap a (.dK kvs) from I.hok a _ ea)
    obtain ⟨o, es, ep, h1, h2, _⟩ := p
    exact PySem.W.kia_one PySem.W.kitx_dict I.kIn ⟨o, h1, h2.1⟩ e (fun z => nomatch z) h
  | @dT a kvs ea =>
    cases (show u = Value.ref a from rx)
    obtain ⟨_, _, xs, _, o, es, ep, h1, h2, _⟩ := (show ObjOk X.prog X.w H s.heap a (.dT kvs) from I.hok a _ ea)
    exact PySem.W.kia_one PySem.W.kitx_dict I.kIn ⟨o, h1, h2.1⟩ e (fun z => nomatch z) h
  | @ins a C dx fs ea cl ha hn htk hm =>
    cases (show u = Value.ref a from rx)
    obtain ⟨mA, O, _⟩ := ins_get I.hok ea
    obtain ⟨od, J, _⟩ := O.look
    exact PySem.W.kia_one (PySem.W.kitx_own (cl.get _) cl.hd ha hn htk hm) I.kIn J e (fun z => nomatch z) h
end
end L2

namespace L2
open PySem PySem.Spec PyProof.Rows

/-! ### room -/
structure Room (k : Nat) (A : Around) : Prop where
  hd : A.handled = none
  dp : A.depth + 3 * k + 5 < recursionLimit
  un : A.units + 16 * k + 200 < cLine
theorem Room.mono {j k : Nat} {A : Around} (r : Room k A) (h : j ≤ k) : Room j A := ⟨r.hd, by have := r.dp; omega, by have := r.un; omega⟩
theorem Room.deeper {k : Nat} {A : Around} (r : Room (k + 1) A) (env : Env) : Room k (A.deeper env) :=
  ⟨r.hd, by have := r.dp; show A.depth + 1 + 3 * k + 5 < _; omega, by have := r.un; show A.units + 3 + 16 * k + 200 < _; omega⟩
theorem Room.in1 {k : Nat} {A : Around} (r : Room (k + 1) A) : Room k A.in1 :=
  ⟨r.hd, by have := r.dp; show A.depth + 3 * k + 5 < _; omega, by have := r.un; show A.units + 1 + 16 * k + 200 < _; omega⟩
theorem make_depth {A : Around} {C : Addr} {us : List Value} {kw : List (Str × Value)} : (A.under (.builtin "type.__call__" ⟨.ref C :: us, kw⟩)).depth = A.depth + 1 := by
  first | rfl | simp [Around.under, Code.weight, Code.isCreation, Code.isGuard, Code.isCaller, Code.frames, Code.isFrame, guardIds]
theorem make_units {A : Around} {C : Addr} {us : List Value} {kw : List (Str × Value)} : (A.under (.builtin "type.__call__" ⟨.ref C :: us, kw⟩)).units = A.units + 1 := by
  first | rfl | simp [Around.under, Code.cUnits, Code.frames, Code.isFrame]
theorem Room.make {k : Nat} {A : Around} (r : Room (k + 1) A) (C : Addr) (us : List Value) (kw : List (Str × Value)) : Room k (A.under (.builtin "type.__call__" ⟨.ref C :: us, kw⟩)) :=
  ⟨r.hd, by have := r.dp; rw [make_depth]; omega, by have := r.un; rw [make_units]; omega⟩
theorem Room.depth {k : Nat} {A : Around} (r : Room k A) : A.depth < recursionLimit := by have := r.dp; omega
theorem Room.units {k : Nat} {A : Around} (r : Room k A) : A.units + 64 < cLine := by have := r.un; omega
/-! ### argument lists and displays -/
noncomputable def tNil : TA := fun _ H Q => Q [] H
noncomputable def tCons (ta : TE) (tr : TA) : TA := fun σ H Q => ta σ H fun x H1 => tr σ H1 fun xs H2 => Q (x :: xs) H2
section
variable {X : Cx} {e : Expr} {es : List Expr} {te : TE} {t : TA} {pos : Pos}
theorem pa_nil : PA X [] tNil := fun _ _ _ _ H Q I h => Calls.spliced_nil ⟨[], H, I, .nil, h⟩
theorem pa_cons (ha : PE X e te) (hr : PA X es t) (hs : starEach (e :: es) X.env = (false, eval e X.env) :: starEach es X.env := by rfl) : PA X (e :: es) (tCons te t) := by
  intro pos pins s σ H Q I h
  rw [hs]
  show wpAny _ _ (spliced ((false, eval e X.env) :: backTo pos (starEach es X.env))) _ _ s
  refine Calls.spliced_cons (thn (ha pins s σ H _ I h) fun u s1 ⟨x, H1, I1, r1, q1⟩ => ?_)
  exact thn (hr pos pins s1 σ H1 _ I1 q1) fun us s2 ⟨xs, H2, I2, r2, q2⟩ => ⟨x :: xs, H2, I2, .cons r1 r2, q2⟩

/-- a tuple, a list of written items -/
noncomputable def tTup (t : TA) : TE := fun σ H Q => t σ H fun xs H1 => xs.length ≤ sizeLine ∧ ∀ p, H1 p = none → Q (.ref p) (upd H1 p (.tup xs))
noncomputable def tLst (t : TA) : TE := fun σ H Q => t σ H fun xs H1 => xs.length ≤ sizeLine ∧ ∀ p, H1 p = none → Q (.ref p) (upd H1 p (.lst xs))
theorem pe_tup {x1} (h : PA X es t) : PE X (.Tuple es x1 pos) (tTup t) := by
  intro pins s σ H Q I hq
  refine wpAny_Tuple_spliced (thn (h pos pins s σ H _ I hq) fun us s1 ⟨xs, H1, I1, r, z, q⟩ => ⟨by rw [← r.length]; exact z, ?_⟩)
  have hf : H1 s1.heap.objs.size = none := I1.hok.fresh (Nat.le_refl _)
  refine ⟨.ref s1.heap.objs.size, upd H1 s1.heap.objs.size (.tup xs), I1.laid (t' := s1.toks) (fun b u e => Heap.get?_push_of_some _ e) (Nat.le_refl _) ?_, rfl, q _ hf⟩
  exact ⟨z, us, r, ⟨_, Heap.get?_push_size _ rfl, rfl, _, rfl⟩⟩
theorem pe_lst (h : PA X es t) : PE X (.List es pos) (tLst t) := by
  intro pins s σ H Q I hq
  refine wpAny_List_spliced (thn (h pos pins s σ H _ I hq) fun us s1 ⟨xs, H1, I1, r, z, q⟩ => ⟨by rw [← r.length]; exact z, ?_⟩)
  have hf : H1 s1.heap.objs.size = none := I1.hok.fresh (Nat.le_refl _)
  refine ⟨.ref s1.heap.objs.size, upd H1 s1.heap.objs.size (.lst xs), I1.laid (t' := s1.toks) (fun b u e => Heap.get?_push_of_some _ e) (Nat.le_refl _) ?_, rfl, q _ hf⟩
  exact ⟨z, us, 0, r, Heap.get?_push_size _ rfl⟩
end

/-! ### what a def promises -/
/-- a def's promise: the bound arguments in the parameters' order, the heap, the wanted end, the wanted exception -/
noncomputable abbrev Sp := List V → Hp → VK → XK → Prop
/-- how an exception lies behind a call (file 08 gives it): the callers' frames, abstract heap and state ahead of the call, the wish, the exception, the state -/
noncomputable abbrev CXT := List Env → Hp → Shared → XK → Value → Shared → Prop

/-- the state at a call -/
structure Env0 (P : Program) (w : World) (K : PySem.W.Frag) (mg : Str → Option Value) (base : Heap) (A : Around) (outer : List Env) (s : Shared) (H : Hp) : Prop where
  frames : A.frames = some outer
  mod : Mod K mg base
  bs : ∀ b o, base.get? b = some o → s.heap.get? b = some o ∧ H b = none
  bsz : base.objs.size ≤ s.heap.objs.size
  funs : s.heap.FunFrames base outer
  frf : ∀ b ∈ frs outer, H b = none
  hok : HOk P w H s.heap
  bare : AllBare s.gens
/-- a call's end -/
noncomputable def CE (outer : List Env) (P : Program) (w : World) (H : Hp) (s : Shared) (Q : VK) (u : Value) (s' : Shared) : Prop :=
  ∃ v H', s'.os = s.os ∧ AllBare s'.gens ∧ Un (frs outer) [] H H' s.heap s'.heap ∧ HOk P w H' s'.heap ∧ RelV v u ∧ Q v H'
noncomputable def CR (CX : CXT) (outer : List Env) (P : Program) (w : World) (H : Hp) (s : Shared) (Q : VK) (E : XK) (r : Result) (s' : Shared) : Prop :=
  match r with
  | .ok (.ret u) => CE outer P w H s Q u s'
  | .ok _ => False
  | .error e => CX outer H s E e s'
structure FnOk (P : Program) (w : World) (K : PySem.W.Frag) (mg : Str → Option Value) (base : Heap) (CX : CXT) (k : Nat) (f : Addr) (fd : FuncData) (ps : List Str) (sp : Sp) : Prop where
  len : ∀ vs H Q E, sp vs H Q E → vs.length = ps.length
  run : ∀ (A : Around) (outer : List Env) (s : Shared) (H : Hp) (args : Args) (us : List Value) (vs : List V) (Q : VK) (E : XK), Room k A → Env0 P w K mg base A outer s H → BindsTo s fd args (ps.zip us) → Vals vs us → sp vs H Q E →
    codeAny (model P w) A (.call (.ref f) args) (CR CX outer P w H s Q E) s
theorem FnOk.mono {P : Program} {w : World} {K : PySem.W.Frag} {mg : Str → Option Value} {base : Heap} {CX : CXT} {j k : Nat} {f : Addr} {fd : FuncData} {ps : List Str} {sp : Sp} (F : FnOk P w K mg base CX j f fd ps sp) (h : j ≤ k) :
    FnOk P w K mg base CX k f fd ps sp := ⟨F.len, fun A outer s H args us vs Q E hr => F.run A outer s H args us vs Q E (hr.mono h)⟩
/-- a weaker promise -/
theorem FnOk.imp {P : Program} {w : World} {K : PySem.W.Frag} {mg : Str → Option Value} {base : Heap} {CX : CXT} {k : Nat} {f : Addr} {fd : FuncData} {ps : List Str} {sp sp' : Sp} (F : FnOk P w K mg base CX k f fd ps sp)
    (h : ∀ vs H Q E, sp' vs H Q E → sp vs H Q E) : FnOk P w K mg base CX k f fd ps sp' :=
  ⟨fun vs H Q E q => F.len vs H Q E (h _ _ _ _ q), fun A outer s H args us vs Q E hr he hb hv hs => F.run A outer s H args us vs Q E hr he hb hv (h _ _ _ _ hs)⟩

theorem Env0.make {P : Program} {w : World} {K : PySem.W.Frag} {mg : Str → Option Value} {base : Heap} {A : Around} {outer : List Env} {s : Shared} {H : Hp} (e : Env0 P w K mg base A outer s H) (C : Addr) (us : List Value) (kw : List (Str × Value)) :
    Env0 P w K mg base (A.under (.builtin "type.__call__" ⟨.ref C :: us, kw⟩)) outer s H := ⟨by first | exact e.frames | (simpa [Around.under, Code.envs, Code.isFrame, pushEnvs] using e.frames), e.mod, e.bs, e.bsz, e.funs, e.frf, e.hok, e.bare⟩
theorem Env0.in1 {P : Program} {w : World} {K : PySem.W.Frag} {mg : Str → Option Value} {base : Heap} {A : Around} {outer : List Env} {s : Shared} {H : Hp} (e : Env0 P w K mg base A outer s H) :
    Env0 P w K mg base A.in1 outer s H := ⟨e.frames, e.mod, e.bs, e.bsz, e.funs, e.frf, e.hok, e.bare⟩

section
variable {X : Cx} {pins : List (Addr × Obj)} {σ : St} {H : Hp} {s s' : Shared}
/-- from a body: what a callee wants -/
theorem Inv.env0 (I : Inv X pins σ H s) : Env0 X.prog X.w X.K X.mg X.base X.A X.stack s H :=
  ⟨I.ok.frames, I.ok.mod, I.bs, Nat.le_trans I.ok.bsz I.sz, I.stack, I.stkFree, I.hok, I.bare⟩
/-- behind a call -/
theorem Inv.after {Q : VK} {u : Value} (I : Inv X pins σ H s) (h : CE X.stack X.prog X.w H s Q u s') : EP X pins σ Q u s' := by
  obtain ⟨v, H', os, bare, un, hok, r, q⟩ := h
  obtain ⟨hh, g, d, t, os'⟩ := s'
  obtain rfl : os' = s.os := os
  exact ⟨v, H', I.call (h' := hh) (g' := g) (d' := d) (t' := t) (ch := []) un hok bare (fun b z => absurd z (by simp)), r, q⟩
end

/-! ### calls -/
/-- f(..): the written arguments, then the defaults dvs; E: what is wanted of an exception -/
noncomputable def tCall (sp : Sp) (dvs : List V) (E : XK) (t : TA) : TE := fun σ H Q => t σ H fun vs H1 => sp (vs ++ dvs) H1 Q E
/-- how the parameters are bound: us the positional arguments, kw the keywords' values by name, ds the defaults that fill up -/
noncomputable def Binds (K : PySem.W.Frag) (fd : FuncData) (ps : List Str) (ds : List Value) : Prop :=
  ∀ (s : Shared) (us : List Value), K.In s.heap → (us ++ ds).length = ps.length → BindsTo s fd ⟨us, []⟩ (ps.zip (us ++ ds))
/-- every parameter is given -/
theorem Binds.all {K : PySem.W.Frag} {fd : FuncData} {ps : List Str} (h : ∀ us : List Value, us.length = ps.length → bindArgs fd ⟨us, []⟩ = pure (ps.zip us)) : Binds K fd ps [] := fun s us _ hl => by
  rw [List.append_nil] at hl ⊢
  exact .of_eq (h us hl)

/-- an exception of a callee reaches what this body wants of exceptions -/
noncomputable def Passes (CX : CXT) (X : Cx) (E : XK) : Prop := ∀ (pins : List (Addr × Obj)) (σ : St) (H : Hp) (s : Shared) (e : Value) (s' : Shared), Inv X pins σ H s → CX X.stack H s E e s' → X.xe e s'

section
variable {X : Cx} {CX : CXT} {k : Nat} {f C : Addr} {fd : FuncData} {ps : List Str} {sp : Sp} {dvs : List V} {ds : List Value} {E : XK} {x m : Str} {p pos apos : Pos} {e o : Expr} {es : List Expr} {ta : TE} {t : TA}

/-- the callee runs -/
theorem run_fn {pins : List (Addr × Obj)} {σ : St} {H : Hp} {s : Shared} {Q : VK} {us : List Value} {vs : List V} (F : FnOk X.prog X.w X.K X.mg X.base CX k f fd ps sp) (hr : Room k X.A) (hb : Binds X.K fd ps ds) (hd : Vals dvs ds) (hx : Passes CX X E)
    (I : Inv X pins σ H s) (r : Vals vs us) (h : sp (vs ++ dvs) H Q E) : wpAny (model X.prog X.w) X.A (call (.ref f) us) (EP X pins σ Q) X.xe s := by
  have r2 : Vals (vs ++ dvs) (us ++ ds) := r.append hd
  have hl : (us ++ ds).length = ps.length := by rw [← r2.length]; exact F.len _ _ _ _ h
  refine wpAny_call (codeAny_mono (F.run X.A X.stack s H ⟨us, []⟩ (us ++ ds) (vs ++ dvs) Q E hr I.env0 (hb s us I.kIn hl) r2 h) fun r s' hq => ?_)
  cases r with
  | error e => exact hx pins σ H s e s' I hq
  | ok fl =>
    cases fl with
    | ret u => exact I.after hq
    | next => exact False.elim hq
    | brk => exact False.elim hq
    | cont => exact False.elim hq

theorem pe_call (F : FnOk X.prog X.w X.K X.mg X.base CX k f fd ps sp) (hr : Room k X.A) (hg : Gl X x) (hm : X.mg x = some (.ref f)) (hk : PySem.W.keepIn X.K (.ref f) = true) (hb : Binds X.K fd ps ds) (hd : Vals dvs ds) (hx : Passes CX X E)
    (ha : PA X (e :: es) t) (hdb : (x == ("__debug__" : Str)) = false := by decide) (he : starEach (e :: es) X.env = (false, eval e X.env) :: starEach es X.env := by rfl) (hpl : (backTo pos (starEach es X.env)).any (·.1) = false := by rfl) :
    PE X (.Call (.Name x p) (e :: es) [] pos) (tCall sp dvs E t) := by
  intro pins s σ H Q I h
  refine wpAny_Call_Name_kw (ld_glob I hg hm ?_ hdb)
  refine PySem.W.callWith_K (h₀ := X.base) I.ok.mod.kin hk (thn (ha pos pins s σ H _ I h) fun us s1 ⟨vs, H1, I1, r, q⟩ => ⟨I1.kIn, ?_⟩) he hpl
  exact run_fn F hr hb hd hx I1 r q
end

section
variable {X : Cx} {CX : CXT} {k : Nat} {f C : Addr} {fd : FuncData} {ps ks : List Str} {sp : Sp} {E : XK} {x m : Str} {p pos apos kpos : Pos} {e o : Expr} {es : List Expr} {kws : List Keyword} {te ta : TE} {t tk : TA} {nm : Option Str}
variable {g : List Value → List Value → List Value} {gV : List V → List V → List V}
end

/-! ### a def's body keeps its promise -/
/-- names: the parameters first -/
structure FnScope (N P : List Str) (sc : Scope) : Prop where
  kind : sc.kind = .function
  co : sc.isCoroutine = false
  gen : sc.isGenerator = false
  nd : N.Nodup
  pre : N.take P.length = P
  par : ∀ x ∈ P, sc.names.lookup x = some .local ∨ sc.names.lookup x = some .cell
  nofree : ∀ y ∈ sc.names, y.2 ≠ .free

theorem bindL_out {kindOf : Str → Option NameKind} {x : Str} : ∀ {binds : List (Str × Value)} {m : Str → Option Value}, (∀ v, (x, v) ∉ binds) → bindL kindOf binds m x = m x
  | [], _, _ => rfl
  | (n, v) :: r, m, h => by
    unfold bindL
    rw [bindL_out fun w hw => h w (List.mem_cons_of_mem _ hw)]
    split
    · have : x ≠ n := by rintro rfl; exact h v List.mem_cons_self
      simp [this]
    · rfl
theorem bindC_out {kindOf : Str → Option NameKind} {x : Str} : ∀ {binds : List (Str × Value)} {m : Str → Option Value}, (∀ v, (x, v) ∉ binds) → bindC kindOf binds m x = m x
  | [], _, _ => rfl
  | (n, v) :: r, m, h => by
    unfold bindC
    rw [bindC_out fun w hw => h w (List.mem_cons_of_mem _ hw)]
    split
    · rfl
    · have : x ≠ n := by rintro rfl; exact h v List.mem_cons_self
      simp [this]
theorem bindL_get {kindOf : Str → Option NameKind} {x : Str} {v : Value} : ∀ {P : List Str} {vs : List Value} {i : Nat} {m : Str → Option Value}, P.Nodup → P[i]? = some x → vs[i]? = some v → kindOf x = some .local →
    bindL kindOf (P.zip vs) m x = some v
  | [], _, _, _, _, h, _, _ => by simp at h
  | _ :: _, [], _, _, _, _, h, _ => by simp at h
  | p :: P, w :: vs, 0, m, nd, h1, h2, hk => by
    simp at h1 h2; subst h1; subst h2
    show bindL kindOf ((p, w) :: P.zip vs) m p = _
    unfold bindL
    rw [bindL_out fun v hv => (List.nodup_cons.mp nd).1 (List.of_mem_zip hv).1, if_pos hk]
    simp
  | p :: P, w :: vs, i + 1, m, nd, h1, h2, hk => by
    show bindL kindOf ((p, w) :: P.zip vs) m x = _
    unfold bindL
    exact bindL_get (i := i) (List.nodup_cons.mp nd).2 (by simpa using h1) (by simpa using h2) hk
theorem bindC_get {kindOf : Str → Option NameKind} {x : Str} {v : Value} : ∀ {P : List Str} {vs : List Value} {i : Nat} {m : Str → Option Value}, P.Nodup → P[i]? = some x → vs[i]? = some v → kindOf x ≠ some .local →
    bindC kindOf (P.zip vs) m x = some v
  | [], _, _, _, _, h, _, _ => by simp at h
  | _ :: _, [], _, _, _, _, h, _ => by simp at h
  | p :: P, w :: vs, 0, m, nd, h1, h2, hk => by
    simp at h1 h2; subst h1; subst h2
    show bindC kindOf ((p, w) :: P.zip vs) m p = _
    unfold bindC
    rw [bindC_out fun v hv => (List.nodup_cons.mp nd).1 (List.of_mem_zip hv).1, if_neg hk]
    simp
  | p :: P, w :: vs, i + 1, m, nd, h1, h2, hk => by
    show bindC kindOf ((p, w) :: P.zip vs) m x = _
    unfold bindC
    exact bindC_get (i := i) (List.nodup_cons.mp nd).2 (by simpa using h1) (by simpa using h2) hk

/-- the names' values at the entry -/
noncomputable def start (N : List Str) (vs : List V) : St := vs.map some ++ List.replicate (N.length - vs.length) none

/-- the context of a def's body, at its entry; an exception leaves the frame, then lies as CX says -/
noncomputable def cxOf (CX : CXT) (P : Program) (w : World) (K : PySem.W.Frag) (mg : Str → Option Value) (base : Heap) (N : List Str) (qual : Str) (scope : Scope) (f : Addr) (cd : Value) (A : Around) (outer : List Env) (s : Shared) (H : Hp) (E : XK) : Cx where
  prog := P
  w := w
  K := K
  mg := mg
  base := base
  A := A.deeper (envOfC qual scope s.heap.objs.size f cd)
  N := N
  s₀ := s
  H₀ := H
  env := envOfC qual scope s.heap.objs.size f cd
  outer := outer
  stack := envOfC qual scope s.heap.objs.size f cd :: outer
  ex := []
  calm := true
  fn := fun _ => true
  pn := []
  xe := fun e s' => wpAny (model P w) (A.deeper (envOfC qual scope s.heap.objs.size f cd)) (leaving (envOfC qual scope s.heap.objs.size f cd) e) (fun _ s'' => CX outer H s E e s'') (fun e' s'' => CX outer H s E e' s'') s'

theorem cell_has {sc : Scope} {n : Nat} {x : Str} (h : sc.names.lookup x = some .cell) : ∃ c, (cellsFrom n sc.names []).lookup x = some c := by
  have q := PySem.W.cellsFrom_some sc.names n [] (.inl h)
  exact Option.isSome_iff_exists.mp q

theorem inv_start {CX : CXT} {P : Program} {w : World} {K : PySem.W.Frag} {mg : Str → Option Value} {base : Heap} {N ps : List Str} {qual : Str} {scope : Scope} {f : Addr} {cd : Value} {A : Around} {outer : List Env} {s s1 : Shared} {H : Hp} {E : XK} {us : List Value} {vs : List V}
    (S : FnScope N ps scope) (hd : A.handled = none) (e0 : Env0 P w K mg base A outer s H) (hl : vs.length = ps.length) (r : Vals vs us)
    (x : InCallC s s.heap.objs.size (bindL (envOfC qual scope s.heap.objs.size f cd).kindOf (ps.zip us) fun _ => none) (cellsFrom (s.heap.objs.size + 1) scope.names []) (bindC (envOfC qual scope s.heap.objs.size f cd).kindOf (ps.zip us) fun _ => none) s1) :
    Inv (cxOf CX P w K mg base N qual scope f cd A outer s H E) [] (start N vs) H s1 := by
  have hpl : ps.length ≤ N.length := by have := congrArg List.length S.pre; rw [List.length_take] at this; omega
  obtain ⟨h1, tk, rfl, hk⟩ := x.done
  have noA : ∀ b : Addr, b ∉ (cxOf CX P w K mg base N qual scope f cd A outer s H E).ex := fun b z => absurd (show b ∈ ([] : List Addr) from z) (by simp)
  refine ⟨⟨e0.mod, S.kind, rfl, rfl, Nat.le_refl _, fun y z c h1 h2 => ?_, fun y hy => ?_, fun y c _ h => ?_, fun _ => hd, Around.frames_deeper e0.frames, .inr ⟨rfl, rfl⟩, fun b z => absurd z (noA b), e0.bs, e0.bsz, fun b _ _ => noA b, fun b z => absurd z (noA b), e0.funs, e0.frf⟩,
    rfl, e0.bare, Un.kept hk, ⟨_, x.toInCall.ns, fun i y v h1 h2 h3 => ?_⟩, fun y c h => ⟨_, x.cell y c h⟩, e0.hok.fresh (Nat.le_refl _), fun y c h => ?_, fun p hp => absurd (show p ∈ ([] : List (Addr × Obj)) from hp) (by simp), e0.hok.kept hk, ?_⟩
  · exact name_of_addr x.apart (PySem.mem_of_lookup h1) (PySem.mem_of_lookup h2)
  · have hy : scope.names.lookup y = some .cell ∨ scope.names.lookup y = some .free := hy
    rcases hy with hy | hy
    · exact cell_has hy
    · exact absurd rfl (S.nofree _ (PySem.mem_of_lookup hy))
  · exact Nat.le_of_lt (x.above y c (PySem.mem_of_lookup h))
  · have hi : i < vs.length := by
      unfold start at h2
      by_cases hi : i < vs.length
      · exact hi
      · rw [List.getElem?_append_right (by simpa using hi)] at h2
        rw [List.getElem?_replicate] at h2
        split at h2 <;> cases h2
    have ha : vs[i]? = some v := by
      unfold start at h2
      rw [List.getElem?_append_left (by simpa using hi), List.getElem?_map] at h2
      cases e : vs[i]? with
      | none => rw [e] at h2; cases h2
      | some a => rw [e] at h2; cases h2; rfl
    obtain ⟨u, hu, rv⟩ := r.get ha
    have hp : ps[i]? = some y := by
      rw [← S.pre, List.getElem?_take_of_lt (by omega)]; exact h1
    have ndP : ps.Nodup := by rw [← S.pre]; exact S.nd.sublist (List.take_sublist _ _)
    refine ⟨u, rv, ?_⟩
    rcases S.par y (List.mem_of_getElem? hp) with k | k
    · exact .inl ⟨k, bindL_get ndP hp hu k⟩
    · obtain ⟨c, e⟩ := cell_has (n := s.heap.objs.size + 1) k
      refine .inr ⟨.inl k, c, e, ?_⟩
      have q := x.cell y c e
      rw [bindC_get ndP hp hu (by show scope.names.lookup y ≠ _; rw [k]; decide)] at q
      exact q
  · exact e0.hok.fresh (Nat.le_of_lt (x.above y c (PySem.mem_of_lookup h)))
  · unfold start
    show _ = N.length
    rw [List.length_append, List.length_map, List.length_replicate]
    omega

/-- THE RULE: a def (or a method) of the text, by its body. The body's reading t is chosen for each entry; it is run at the parameters' values -/
theorem fn_of {CX : CXT} {P : Program} {w : World} {K : PySem.W.Frag} {mg : Str → Option Value} {base : Heap} {k : Nat} {f : Addr} {name qual : Str} {params : Arguments} {body : List Stmt} {scope : Scope} {dV kV doc pm cdv ct oc : Value} {an od : Option Addr}
    {osl : Array (Option Value)} {N ps : List Str} {sp : Sp} (lk : K.lookup f = some ⟨oc, od, .func (PySem.W.fnOf name qual params body scope dV kV doc pm an cdv ct), osl⟩) (hcd : PySem.W.codeIn K cdv qual = true) (S : FnScope N ps scope)
    (len : ∀ vs H Q E, sp vs H Q E → vs.length = ps.length)
    (hbody : ∀ (A : Around) (outer : List Env) (s : Shared) (H : Hp) (vs : List V) (Q : VK) (E : XK), Room k (A.deeper (envOfC qual scope s.heap.objs.size f cdv)) → sp vs H Q E →
      ∃ t, PSs (cxOf CX P w K mg base N qual scope f cdv A outer s H E) body t ∧ t { nx := fun _ H' => Q .non H', rt := Q } (start N vs) H) :
    FnOk P w K mg base CX (k + 1) f (PySem.W.fnOf name qual params body scope dV kV doc pm an cdv ct) ps sp := by
  refine ⟨len, fun A outer s H args us vs Q E hr e0 hb r hsp => ?_⟩
  have hl := len _ _ _ _ hsp
  have KX : K.In s.heap := e0.mod.kin.keeps fun b o e => (e0.bs b o e).1
  have lim : s.heap.NoLimit := e0.mod.nolimit.keeps fun b o e => (e0.bs b o e).1
  have hkind : ∀ y ∈ ps.zip us, scope.names.lookup y.1 = some .local ∨ (scope.names.lookup y.1 = some .cell ∧ ((cellsFrom (s.heap.objs.size + 1) scope.names []).lookup y.1).isSome = true) := fun ⟨n, v⟩ hy => by
    rcases S.par n (List.of_mem_zip hy).1 with q | q
    · exact .inl q
    · exact .inr ⟨q, PySem.W.cellsFrom_some _ _ _ (.inl q)⟩
  refine codeAny_call_function hr.depth (KX _ _ lk) rfl S.co S.gen rfl (PySem.W.codeRec_of KX hcd) (hb _ _ _ _ ?_)
  refine wpAny_newFunctionEnv_cells S.kind hkind fun env he s1 x => ?_
  subst he
  refine ⟨lim.keeps x.toInCall.keep, codeAny_func ?_⟩
  obtain ⟨t, ht, hq⟩ := hbody A outer s H vs Q E (hr.deeper _) hsp
  have I : Inv (cxOf CX P w K mg base N qual scope f cdv A outer s H E) [] (start N vs) H s1 := inv_start S hr.hd e0 hl r x
  refine wpAny_mono (ht [] s1 (start N vs) H _ I hq) (fun fl s' hs => ?_) fun e s' hs => hs
  have fin : ∀ {σ' : St} {H' : Hp} {v : V} {u : Value}, Inv (cxOf CX P w K mg base N qual scope f cdv A outer s H E) [] σ' H' s' → RelV v u → Q v H' → CE outer P w H s Q u s' :=
    fun {σ' H' v u} J rv q => ⟨v, H', J.os, J.bare, J.base, J.hok, rv, q⟩
  cases fl with
  | ret u =>
    obtain ⟨v, σ', H', J, rv, q⟩ := hs
    exact fin J rv q
  | next =>
    obtain ⟨σ', H', J, q⟩ := hs
    exact fin (v := V.non) (u := Value.none) J rfl q
  | brk =>
    obtain ⟨_, _, _, q⟩ := hs
    exact False.elim q
  | cont =>
    obtain ⟨_, _, _, q⟩ := hs
    exact False.elim q
end L2

namespace L2
open PySem PySem.Spec PyProof.Rows
section
variable {X : Cx} {x : Str} {p pos : Pos} {e : Expr} {es : List Expr} {t : TA} {id T : String} {r : List V → Hp → VK → Prop}

noncomputable def tCB (r : List V → Hp → VK → Prop) (t : TA) : TE := fun σ H Q => t σ H fun vs H1 => r vs H1 Q
/-- f(e, ..), f a built-in function -/
theorem pe_callB (hc : CallR X (.builtin id) r) (hg : Gl X x) (hm : X.mg x = none) (hv : bootBuiltins x = some (.builtin id)) (ha : PA X (e :: es) t) (hn : x ≠ "__name__" := by decide) (hdb : (x == ("__debug__" : Str)) = false := by decide)
    (he : starEach (e :: es) X.env = (false, eval e X.env) :: starEach es X.env := by rfl) (hpl : (backTo pos (starEach es X.env)).any (·.1) = false := by rfl) : PE X (.Call (.Name x p) (e :: es) [] pos) (tCB r t) := by
  intro pins s σ H Q I h
  refine wpAny_Call_Name_kw (ld_blt I hg hm hv ?_ hn hdb)
  exact PyProof.Rows.callWith_builtin1 (thn (ha pos pins s σ H _ I h) fun us s1 ⟨vs, H1, I1, r1, q1⟩ => hc pins s1 σ H1 vs us Q I1 r1 q1) he hpl
/-- T(e, ..), T a built-in type -/
theorem pe_callTy (hc : CallR X (.type T) r) (hg : Gl X x) (hm : X.mg x = none) (hv : bootBuiltins x = some (.type T)) (ha : PA X (e :: es) t) (hn : x ≠ "__name__" := by decide) (hdb : (x == ("__debug__" : Str)) = false := by decide)
    (he : starEach (e :: es) X.env = (false, eval e X.env) :: starEach es X.env := by rfl) (hpl : (backTo pos (starEach es X.env)).any (·.1) = false := by rfl) : PE X (.Call (.Name x p) (e :: es) [] pos) (tCB r t) := by
  intro pins s σ H Q I h
  refine wpAny_Call_Name_kw (ld_blt I hg hm hv ?_ hn hdb)
  exact PyProof.Rows.callWith_type1 (thn (ha pos pins s σ H _ I h) fun us s1 ⟨vs, H1, I1, r1, q1⟩ => hc pins s1 σ H1 vs us Q I1 r1 q1) he hpl
end
end L2

namespace HT
open PySem PyProof.Rows

section
open PySem.SeqAt
open PySem.AutoSeq1 (wpAny_loadPart')
open PySem.MeetsSeq PySem.MeetsSeq2 PySem.MeetsSeq3

end

section
variable {prog : Program} {w : World} {A : Around} {E : Value → Shared → Prop} {s : Shared}

/-- t + u, t not empty -/
theorem cat_tup {t b : Addr} {vs ws : List Value} {Q : Value → Shared → Prop} (ht : IsTup s.heap t vs.toArray) (hb : IsTup s.heap b ws.toArray) (hv : vs ≠ [])
    (h1 : ws = [] → Q (.ref t) s) (h2 : ws ≠ [] → Q (.ref s.heap.objs.size) { s with heap := s.heap.push { cls := .type "tuple", data := .seq (vs ++ ws).toArray } })
    (hsz : vs.length + ws.length ≤ sizeLine) : wpAny (model prog w) A (binaryOp .Add (.ref t) (.ref b)) Q E s := by
  obtain ⟨⟨cls, dd, data, sl⟩, ho, hc, n, hd⟩ := id ht
  obtain ⟨⟨cls2, dd2, data2, sl2⟩, ho2, hc2, n2, hd2⟩ := id hb
  simp only at hc hd hc2 hd2
  subst hc hd hc2 hd2
  have e : vs.toArray ++ ws.toArray = (vs ++ ws).toArray := by simp
  by_cases hw : ws = []
  · exact concat_meets ⟨_, ho, rfl⟩ ⟨_, ho2, rfl⟩ noFill_tuple_add seq_tuple_add PySem.F.slot_tuple_add PySem.F.entry_tuple_add (PySem.F.args_tuple_add_2 _ _)
      (tuple_addW1 t b vs.toArray ws.toArray n n2 dd dd2 sl sl2 (by simpa using hv) (by simp [hw])) ⟨ho, ho2, h1 hw⟩
  · refine concat_meets ⟨_, ho, rfl⟩ ⟨_, ho2, rfl⟩ noFill_tuple_add seq_tuple_add PySem.F.slot_tuple_add PySem.F.entry_tuple_add (PySem.F.args_tuple_add_2 _ _)
      (tuple_addW2 t b vs.toArray ws.toArray n n2 dd dd2 sl sl2 (by simpa using hv) (by simpa using hw) (by rw [List.size_toArray, List.size_toArray]; exact hsz)) ⟨ho, ho2, ?_⟩
    rw [e]
    exact h2 hw

/-! ### t[a:b], not the whole -/
/-- a slice's bound as a place among n (d where it is left out) -/
noncomputable def sIx (n d : Nat) : Option Int → Nat
  | none => d
  | some v => if v < 0 then (v + (n : Int)).toNat else min v.toNat n
theorem sIx_none (n d : Nat) : sIx n d none = d := rfl
theorem sIx_nat (n d k : Nat) : sIx n d (some (k : Int)) = min k n := by
  show (if (k : Int) < 0 then ((k : Int) + (n : Int)).toNat else min (k : Int).toNat n) = min k n
  rw [if_neg (by omega), Int.toNat_natCast]
theorem sIx_le (n d : Nat) (hd : d ≤ n) (o : Option Int) : sIx n d o ≤ n := by
  cases o with
  | none => exact hd
  | some v =>
    show (if v < 0 then (v + (n : Int)).toNat else min v.toNat n) ≤ n
    by_cases hv : v < 0
    · rw [if_pos hv]; omega
    · rw [if_neg hv]; exact Nat.min_le_right _ _
theorem clip_eq (v : Int) (n d : Nat) : (if v < 0 then max (v + (n : Int)) 0 else min v (n : Int)) = ((sIx n d (some v) : Nat) : Int) := by
  show (if v < 0 then max (v + (n : Int)) 0 else min v (n : Int)) = (((if v < 0 then (v + (n : Int)).toNat else min v.toNat n) : Nat) : Int)
  by_cases hv : v < 0
  · simp only [if_pos hv]; omega
  · simp only [if_neg hv]; omega
theorem adjust_gen (lo hi : Option Int) (n : Nat) : Builtin.Slice.sliceAdjust lo hi 1 (n : Int) = (((sIx n 0 lo : Nat) : Int), ((sIx n n hi : Nat) : Int)) := by
  have h1 : ¬ ((1 : Int) < 0) := by omega
  unfold Builtin.Slice.sliceAdjust
  simp only [h1, if_false]
  refine Prod.ext ?_ ?_
  · cases lo with
    | none => rfl
    | some v => exact clip_eq v n 0
  · cases hi with
    | none => rfl
    | some v => exact clip_eq v n n
theorem places_gen (i j : Nat) : Builtin.Slice.slicePlaces (i : Int) (j : Int) 1 = j - i := by
  unfold Builtin.Slice.slicePlaces
  have h1 : (1 : Int) > 0 := by omega
  simp only [h1, if_true, Int.ediv_one]
  split <;> omega
theorem slicePart_ {v : Value} {o : Option Int} {Q : Option Int → Shared → Prop} (p : IsPart v o) (h : Q o s) : wpAny (model prog w) A (Builtin.Slice.slicePartIndex v) Q E s := by
  cases p with
  | none => exact slicePart_none h
  | int i t => exact slicePart_int h
theorem sliceApplied_gen {sl : Addr} {vl vu : Value} {lo hi : Option Int} {n : Nat} {Q : Int × Int × Nat → Shared → Prop} (hs : s.heap.IsSliceOf sl vl vu .none) (pl : IsPart vl lo) (pu : IsPart vu hi)
    (h : Q (((sIx n 0 lo : Nat) : Int), 1, sIx n n hi - sIx n 0 lo) s) : wpAny (model prog w) A (Builtin.Slice.sliceApplied (.ref sl) (pure (n : Int))) Q E s := by
  obtain ⟨os, hos, hcs, hds⟩ := id hs
  unfold Builtin.Slice.sliceApplied Builtin.Slice.sliceFields
  refine wpAny_bind (wpAny_bind (wpAny_field hos hds (x := vl) rfl (wpAny_bind (wpAny_field hos hds (x := vu) rfl (wpAny_bind (wpAny_field hos hds (x := .none) rfl (wpAny_pure ?_)))))))
  refine wpAny_bind (slicePart_none ?_)
  show wpAny _ _ (if ((1 : Int) == 0) = true then _ else _) _ _ s
  rw [if_neg (by decide)]
  refine wpAny_bind (slicePart_ pl (wpAny_bind (slicePart_ pu (wpAny_bind (wpAny_pure ?_)))))
  show wpAny _ _ (match Builtin.Slice.sliceAdjust lo hi 1 (n : Int) with | (lo, hi) => pure (lo, (1 : Int), Builtin.Slice.slicePlaces lo hi 1)) _ _ s
  rw [adjust_gen lo hi n]
  show wpAny _ _ (pure (((sIx n 0 lo : Nat) : Int), (1 : Int), Builtin.Slice.slicePlaces ((sIx n 0 lo : Nat) : Int) ((sIx n n hi : Nat) : Int) 1)) _ _ s
  rw [places_gen]
  exact wpAny_pure h
theorem pick_gen (xs : Array Value) (i k : Nat) : ((List.range k).filterMap fun (m : Nat) => xs[((i : Int) + (m : Int) * 1).toNat]?).toArray = ((xs.toList.drop i).take k).toArray := by
  have e : (fun (m : Nat) => xs[((i : Int) + (m : Int) * 1).toNat]?) = fun m => xs[i + m]? := by
    funext m
    have : ((i : Int) + (m : Int) * 1).toNat = i + m := by omega
    rw [this]
  rw [e]
  have := pick_run xs i k
  rw [List.filterMap_map] at this
  have e2 : ((fun x => xs[x]?) ∘ fun x => i + x) = fun m => xs[i + m]? := rfl
  rw [e2] at this
  rw [this]

theorem getItem_tuple_cut {t sl : Addr} {items : Array Value} {vl vu : Value} {lo hi : Option Int} {Q : Value → Shared → Prop} (ht : IsTup s.heap t items) (hs : s.heap.IsSliceOf sl vl vu .none) (pl : IsPart vl lo) (pu : IsPart vu hi)
    (hw : ¬ (sIx items.size 0 lo = 0 ∧ sIx items.size items.size hi = items.size))
    (h : Q (.ref s.heap.objs.size) { s with heap := s.heap.push { cls := .type "tuple", data := .seq ((items.toList.drop (sIx items.size 0 lo)).take (sIx items.size items.size hi - sIx items.size 0 lo)).toArray } })
    (hsz : items.size ≤ sizeLine) : wpAny (model prog w) A (getItem (.ref t) (.ref sl)) Q E s := by
  have htake : sizeOk (.seq ((items.toList.drop (sIx items.size 0 lo)).take (sIx items.size items.size hi - sIx items.size 0 lo)).toArray) := by
    show ((items.toList.drop (sIx items.size 0 lo)).take (sIx items.size items.size hi - sIx items.size 0 lo)).toArray.size ≤ sizeLine
    rw [List.size_toArray, List.length_take, List.length_drop, Array.length_toList]
    omega
  have hj : sIx items.size items.size hi ≤ items.size := sIx_le _ _ (Nat.le_refl _) hi
  obtain ⟨os, hos, hcs, hds⟩ := id hs
  have hTs : s.TypeIs (.ref sl) "slice" := ⟨os, hos, hcs⟩
  unfold getItem
  try with_reducible refine wpAny_holding ?_
  first | refine wpAny_bind (wpAny_pure ?_) | skip
  refine wpAny_bind (wpAny_sequenceKey ht.typeIs (by decide) ?_)
  refine wpAny_bind (wpAny_callSpecial?_slot (name := Str.ofString "__getitem__") ht.typeIs PyProof.Rows.slot_tuple_getitem
    (wpAny_call_entry PyProof.Rows.slot_tuple_getitem ht.typeIs entry_tuple_getitem ?_ (args_tuple_getitem _ _)))
  show wpAny _ _ (Builtin.Tuple.tupleItemsOf (.ref t) >>= _) _ _ s
  refine wpAny_bind (tupleItemsOf_ ht ?_)
  refine wpAny_bind (wpAny_typeOf hTs ?_)
  rw [if_pos (by decide)]
  refine wpAny_bind (sliceApplied_gen hs pl pu ?_)
  have hno : ¬ ((((sIx items.size 0 lo : Nat) : Int) == 0 && (1 : Int) == 1 && (sIx items.size items.size hi - sIx items.size 0 lo) == items.size) = true) := by
    intro q
    rw [Bool.and_eq_true, Bool.and_eq_true] at q
    have q1 : ((sIx items.size 0 lo : Nat) : Int) = 0 := eq_of_beq q.1.1
    have q2 : sIx items.size items.size hi - sIx items.size 0 lo = items.size := eq_of_beq q.2
    exact hw ⟨by omega, by omega⟩
  show wpAny _ _ (if (((sIx items.size 0 lo : Nat) : Int) == 0 && (1 : Int) == 1 && (sIx items.size items.size hi - sIx items.size 0 lo) == items.size) = true then _ else _) _ _ s
  rw [if_neg hno, pick_gen]
  first
    | exact wpAny_bind (m := Builtin.Tuple.tupleExact _) (wpAny_newObj_type (wpAny_pure ⟨_, rfl, wpAny_pure h⟩) htake)
    | exact wpAny_bind (m := Builtin.Tuple.tupleExact _) (wpAny_newObj_type (wpAny_bind (wpAny_pure (wpAny_pure ⟨_, rfl, wpAny_pure h⟩))) htake)
    | exact wpAny_bind (wpAny_bind (m := Builtin.Tuple.tupleExact _) (wpAny_newObj_type (wpAny_pure (wpAny_pure ⟨_, rfl, wpAny_pure h⟩)) htake))
    | exact wpAny_bind (wpAny_bind (m := Builtin.Tuple.tupleExact _) (wpAny_newObj_type (wpAny_pure ⟨_, rfl, wpAny_pure h⟩) htake))
end
end HT

namespace L2
open PySem PySem.Spec PyProof.Rows

/-! ### the parts of a slice -/
noncomputable abbrev TO := St → Hp → (Option Int → Hp → Prop) → Prop
/-- a slice's part (left out, or an int) -/
noncomputable def PO (X : Cx) (e : Option Expr) (t : TO) : Prop :=
  ∀ (pins : List (Addr × Obj)) (s : Shared) (σ : St) (H : Hp) (Q : Option Int → Hp → Prop), Inv X pins σ H s → t σ H Q →
    wpAny (model X.prog X.w) X.A (evalPart e X.env) (fun u s' => ∃ o H', Inv X pins σ H' s' ∧ IsPart u o ∧ Q o H') X.xe s
noncomputable def tNoPart : TO := fun _ H Q => Q none H
noncomputable def tPart (t : TE) : TO := fun σ H Q => t σ H fun x H1 => ∃ i, x = .int i ∧ Q (some i) H1

section
variable {X : Cx} {e : Expr} {te : TE} {lo hi : Option Expr} {tl th : TO} {pos p2 : Pos}

theorem po_none : PO X none tNoPart := by
  intro pins s σ H Q I h
  rw [evalPart_none]
  exact wpAny_pure ⟨none, H, I, .none, h⟩
theorem po_some (h : PE X e te) : PO X (some e) (tPart te) := by
  intro pins s σ H Q I hw
  rw [evalPart_some]
  refine thn (h pins s σ H _ I hw) fun u s1 ⟨x, H1, I1, r1, q1⟩ => ?_
  obtain ⟨i, rfl, q⟩ := q1
  obtain ⟨t, rfl⟩ := r1
  exact ⟨some i, H1, I1, .int i t, q⟩

/-- what a slice of a value is, by values: the slice object stands at sl -/
noncomputable def SlR (X : Cx) (r : V → Option Int → Option Int → Hp → VK → Prop) : Prop :=
  ∀ (pins : List (Addr × Obj)) (s : Shared) (σ : St) (H : Hp) (x : V) (v vl vu : Value) (lo hi : Option Int) (sl : Addr) (Q : VK), Inv X pins σ H s → RelV x v → s.heap.IsSliceOf sl vl vu .none → IsPart vl lo → IsPart vu hi → r x lo hi H Q →
    ∃ T id, typeLookup (.type T) "__getitem__" = pure (some (.builtin id)) ∧ s.TypeIs v T ∧ wpAny (model X.prog X.w) X.A (getItem v (.ref sl)) (EP X pins σ Q) X.xe s
theorem SlR.or {r r' : V → Option Int → Option Int → Hp → VK → Prop} (h : SlR X r) (h' : SlR X r') : SlR X (fun x lo hi H Q => r x lo hi H Q ∨ r' x lo hi H Q) := by
  intro pins s σ H x v vl vu lo hi sl Q I rx hs pl pu q
  rcases q with q | q
  · exact h pins s σ H x v vl vu lo hi sl Q I rx hs pl pu q
  · exact h' pins s σ H x v vl vu lo hi sl Q I rx hs pl pu q
noncomputable def tSl (r : V → Option Int → Option Int → Hp → VK → Prop) (te : TE) (tl th : TO) : TE := fun σ H Q => te σ H fun x H1 => tl σ H1 fun l H2 => th σ H2 fun u H3 => r x l u H3 Q
/-- a[lo:hi], any a -/
theorem pe_slice {r : V → Option Int → Option Int → Hp → VK → Prop} (hr : SlR X r) (he : PE X e te) (hl : PO X lo tl) (hu : PO X hi th) : PE X (.Subscript e (.Slice lo hi none p2) pos) (tSl r te tl th) := by
  intro pins s σ H Q I h
  refine Subscript_ (thn (he pins s σ H _ I h) fun v s1 ⟨x, H1, I1, r1, q1⟩ => ?_)
  refine wpAny_Slice (thn (hl pins s1 σ H1 _ I1 q1) fun vl s2 ⟨l, H2, I2, pl, q2⟩ => thn (hu pins s2 σ H2 _ I2 q2) fun vu s3 ⟨u, H3, I3, pu, q3⟩ => ?_)
  rw [evalPart_none]
  refine wpAny_pure ?_
  have I4 : Inv X pins σ H3 { s3 with heap := s3.heap.push { cls := .type "slice", data := .fields #[vl, vu, .none] } } := I3.kept (t' := s3.toks) fun b ob q => Heap.get?_push_of_some _ q
  obtain ⟨T, id, hT, ht, hg⟩ := hr pins { s3 with heap := s3.heap.push { cls := .type "slice", data := .fields #[vl, vu, .none] } } σ H3 x v vl vu l u s3.heap.objs.size Q I4 r1 (Heap.IsSliceOf.new ..) pl pu q3
  show wpAny (model X.prog X.w) X.A (subscriptTail e (.Slice lo hi none p2) v (.ref s3.heap.objs.size)) (EP X pins σ Q) X.xe { s3 with heap := s3.heap.push { cls := .type "slice", data := .fields #[vl, vu, .none] } }
  exact tail_any (ops := [.ref s3.heap.objs.size, v]) ht hT hg (by with_unfolding_all rfl)

/-- the items of xs[lo:hi] -/
noncomputable def cutV (xs : List V) (lo hi : Option Int) : List V := (xs.drop (HT.sIx xs.length 0 lo)).take (HT.sIx xs.length xs.length hi - HT.sIx xs.length 0 lo)
theorem cutV_length (xs : List V) (lo hi : Option Int) : (cutV xs lo hi).length ≤ xs.length := by
  unfold cutV
  rw [List.length_take, List.length_drop]
  omega
/-- t[lo:hi], not the whole of it (the whole would be t itself) -/
noncomputable def rSlT (K : PySem.W.Frag) : V → Option Int → Option Int → Hp → VK → Prop := fun x lo hi H Q => ∃ a xs, x = .ref a ∧ SqT K H a xs ∧
  ¬ (HT.sIx xs.length 0 lo = 0 ∧ HT.sIx xs.length xs.length hi = xs.length) ∧ ∀ p, H p = none → Q (.ref p) (upd H p (.tup (cutV xs lo hi)))
theorem sl_tup : SlR X (rSlT X.K) := by
  intro pins s σ H x v vl vu lo hi sl Q I rx hs pl pu h
  obtain ⟨a, xs, rfl, hx, hw, q⟩ := h
  cases rx
  obtain ⟨its, r, ht, hz⟩ := I.tuple hx
  have hlen : its.toArray.size = xs.length := by rw [List.size_toArray]; exact r.length.symm
  refine ⟨"tuple", _, PyProof.Rows.slot_tuple_getitem.lookup, ht.typeIs, ?_⟩
  refine HT.getItem_tuple_cut ht hs pl pu (by rw [hlen]; exact hw) ?_ (by rw [hlen]; exact hz)
  rw [hlen]
  refine ⟨.ref s.heap.objs.size, _, I.laid (t' := s.toks) (o := .tup (cutV xs lo hi)) (fun b ob q => Heap.get?_push_of_some _ q) (Nat.le_refl _) ?_, rfl, q _ (I.hok.fresh (Nat.le_refl _))⟩
  exact ⟨Nat.le_trans (cutV_length xs lo hi) hz, _, (r.drop (HT.sIx xs.length 0 lo)).take (HT.sIx xs.length xs.length hi - HT.sIx xs.length 0 lo), IsTup.new _ _⟩

/-- t + u, t not empty: u empty gives t itself -/
noncomputable def rCatT (K : PySem.W.Frag) : R2 := fun x y H Q => ∃ a b xs ys, x = .ref a ∧ y = .ref b ∧ SqT K H a xs ∧ SqT K H b ys ∧ xs ≠ [] ∧ xs.length + ys.length ≤ sizeLine ∧
  (ys = [] → Q (.ref a) H) ∧ (ys ≠ [] → ∀ p, H p = none → Q (.ref p) (upd H p (.tup (xs ++ ys))))
theorem Vals.nil_iff {xs : List V} {us : List Value} (r : Vals xs us) : us = [] ↔ xs = [] := by
  cases r with
  | nil => simp
  | cons _ _ => simp
theorem op_catT : OpR X (binaryOp .Add) (rCatT X.K) := by
  intro pins s σ H x y v u Q I rx ry h
  obtain ⟨a, b, xs, ys, rfl, rfl, ha, hb, hx, hz, q1, q2⟩ := h
  cases rx
  cases ry
  obtain ⟨its, r1, p1, _⟩ := I.tuple ha
  obtain ⟨its2, r2, p2, _⟩ := I.tuple hb
  refine HT.cat_tup p1 p2 (fun z => hx (r1.nil_iff.mp z)) (fun z => ⟨.ref a, H, I, rfl, q1 (r2.nil_iff.mp z)⟩) (fun z => ?_) (by rw [← r1.length, ← r2.length]; exact hz)
  refine ⟨.ref s.heap.objs.size, _, I.laid (t' := s.toks) (o := .tup (xs ++ ys)) (fun b ob q => Heap.get?_push_of_some _ q) (Nat.le_refl _) ?_, rfl, q2 (fun w => z (r2.nil_iff.mpr w)) _ (I.hok.fresh (Nat.le_refl _))⟩
  exact ⟨by rw [List.length_append]; exact hz, _, r1.append r2, IsTup.new _ _⟩
end
end L2

namespace L2
open PySem PySem.Spec PyProof.Rows

/-! ### places -/
/-- the place that an index of any sign means -/
noncomputable def ixN (n : Nat) (i : Int) : Option Nat := if 0 ≤ i then (if i < n then some i.toNat else none) else if -(n : Int) ≤ i then some (i + n).toNat else none
noncomputable def atI {α : Type} (xs : List α) (i : Int) : Option α := (ixN xs.length i).bind fun j => xs[j]?
theorem ixN_seq {n : Nat} {i : Int} {j : Nat} (h : ixN n i = some j) : seqIndex? i n = some j ∧ j < n ∧ -(n : Int) ≤ i ∧ i < n := by
  unfold ixN at h
  by_cases h0 : 0 ≤ i
  · rw [if_pos h0] at h
    by_cases h1 : i < n
    · rw [if_pos h1] at h
      have e : i.toNat = j := Option.some.inj h
      exact ⟨by rw [seqIndex_of h0 h1, e], by omega, by omega, h1⟩
    · rw [if_neg h1] at h; cases h
  · rw [if_neg h0] at h
    by_cases h1 : -(n : Int) ≤ i
    · rw [if_pos h1] at h
      have e : (i + n).toNat = j := Option.some.inj h
      exact ⟨by rw [seqIndex_neg (by omega) h1, e], by omega, h1, by omega⟩
    · rw [if_neg h1] at h; cases h
theorem atI_get {α : Type} {xs : List α} {i : Int} {v : α} (h : atI xs i = some v) : ∃ j, seqIndex? i xs.length = some j ∧ xs[j]? = some v ∧ j < xs.length ∧ -(xs.length : Int) ≤ i ∧ i < xs.length := by
  unfold atI at h
  cases e : ixN xs.length i with
  | none => rw [e] at h; cases h
  | some j =>
    rw [e] at h
    obtain ⟨h1, h2, h3, h4⟩ := ixN_seq e
    exact ⟨j, h1, h, h2, h3, h4⟩
theorem atI_nat {α : Type} {xs : List α} {j : Nat} {v : α} (h : xs[j]? = some v) : atI xs (j : Int) = some v := by
  have hj : j < xs.length := (List.getElem?_eq_some_iff.mp h).1
  have e : ixN xs.length (j : Int) = some j := by
    unfold ixN
    rw [if_pos (by omega), if_pos (by omega)]; simp
  unfold atI; rw [e]; exact h
/-! ### what may be subscripted -/
/-- what stands as an index of a plain subscript -/
noncomputable def PlainIx (b : Expr) : Prop := ∀ o i, subscripted b false o i = operate [o, i] (getItem o i)
/-- a subscript by values -/
noncomputable def IxR (X : Cx) (r : R2) : Prop :=
  ∀ (value slice : Expr) (pins : List (Addr × Obj)) (s : Shared) (σ : St) (H : Hp) (x y : V) (v u : Value) (Q : VK), Inv X pins σ H s → RelV x v → RelV y u → r x y H Q →
    subscripted slice false v u = operate [v, u] (getItem v u) → wpAny (model X.prog X.w) X.A (subscriptTail value slice v u) (EP X pins σ Q) X.xe s
/-- a call of a builtin's method by values: the receiver, the arguments -/
noncomputable def MtR (X : Cx) (id : String) (r : V → List V → Hp → VK → Prop) : Prop :=
  ∀ (pins : List (Addr × Obj)) (s : Shared) (σ : St) (H : Hp) (x : V) (xs : List V) (v : Value) (us : List Value) (Q : VK), Inv X pins σ H s → RelV x v → Vals xs us → r x xs H Q →
    wpAny (model X.prog X.w) X.A (call (.builtin id) (v :: us)) (EP X pins σ Q) X.xe s
section
variable {X : Cx} {a b : Expr} {ta tb : TE} {pos : Pos}
theorem IxR.or {r r' : R2} (h : IxR X r) (h' : IxR X r') : IxR X (fun x y H Q => r x y H Q ∨ r' x y H Q) := by
  intro value slice pins s σ H x y v u Q I rx ry q hs
  rcases q with q | q
  · exact h value slice pins s σ H x y v u Q I rx ry q hs
  · exact h' value slice pins s σ H x y v u Q I rx ry q hs
theorem MtR.or {id : String} {r r' : V → List V → Hp → VK → Prop} (h : MtR X id r) (h' : MtR X id r') : MtR X id (fun x xs H Q => r x xs H Q ∨ r' x xs H Q) := by
  intro pins s σ H x xs v us Q I rx rs q
  rcases q with q | q
  · exact h pins s σ H x xs v us Q I rx rs q
  · exact h' pins s σ H x xs v us Q I rx rs q
/-- a[b] -/
theorem pe_ix {r : R2} (hr : IxR X r) (ha : PE X a ta) (hb : PE X b tb) (hs : PlainIx b) : PE X (.Subscript a b pos) (tOp r ta tb) := by
  intro pins s σ H Q I h
  exact Subscript_ (binT ha hb I h fun v u s2 x y H2 I2 rx ry q => hr a b pins s2 σ H2 x y v u Q I2 rx ry q (hs _ _))

noncomputable def rIxL (K : PySem.W.Frag) : R2 := fun x y H Q => ∃ p xs i v, x = .ref p ∧ y = .int i ∧ SqL K H p xs ∧ atI xs i = some v ∧ Q v H
noncomputable def rIxT (K : PySem.W.Frag) : R2 := fun x y H Q => ∃ p xs i v, x = .ref p ∧ y = .int i ∧ SqT K H p xs ∧ atI xs i = some v ∧ Q v H
theorem ix_list : IxR X (rIxL X.K) := by
  intro value slice pins s σ H x y v u Q I rx ry h hs
  obtain ⟨p, xs, i, z, rfl, rfl, hq, he, q⟩ := h
  cases rx
  obtain ⟨t, rfl⟩ := ry
  obtain ⟨its, r, pl, hz⟩ := I.list hq
  obtain ⟨j, h1, h2, h3, h4, h5⟩ := atI_get he
  obtain ⟨w, ew, rw'⟩ := r.get h2
  have hl := r.length
  have hn := line63
  have fin : EP X pins σ Q w s := ⟨z, H, I, rw', q⟩
  by_cases h0 : 0 ≤ i
  · have hj : i.toNat = j := by
      rw [seqIndex_of h0 h5] at h1
      exact Option.some.inj h1
    exact item_listR pl.isList h0 (by omega) (by rw [hj]; simpa using ew) fin hs
  · have hj : (i + (its.toArray.size : Int)).toNat = j := by
      rw [seqIndex_neg (by omega) h4] at h1
      rw [List.size_toArray, ← hl]
      exact Option.some.inj h1
    exact subscriptTail_builtinR (x := w) pl.isList.typeIs slot_list_getitem.lookup
      (wpAny_getItem_list_neg (Q := fun r s' => r = w ∧ EP X pins σ Q r s') pl.isList (by omega) (by rw [List.size_toArray] <;> omega) (by omega) (by rw [hj]; simpa using ew) ⟨rfl, fin⟩) hs
theorem ix_tup : IxR X (rIxT X.K) := by
  intro value slice pins s σ H x y v u Q I rx ry h hs
  obtain ⟨p, xs, i, z, rfl, rfl, hq, he, q⟩ := h
  cases rx
  obtain ⟨t, rfl⟩ := ry
  obtain ⟨its, r, pl, hz⟩ := I.tuple hq
  obtain ⟨j, h1, h2, h3, h4, h5⟩ := atI_get he
  obtain ⟨w, ew, rw'⟩ := r.get h2
  have hl := r.length
  have hn := line63
  have fin : EP X pins σ Q w s := ⟨z, H, I, rw', q⟩
  exact subscriptTail_builtinR (x := w) pl.typeIs slot_tuple_getitem.lookup
    (getItem_tuple (j := j) (Q := fun r s' => r = w ∧ EP X pins σ Q r s') pl (by omega) (by omega) (by rw [List.size_toArray, ← hl]; exact h1) (by simpa using ew) ⟨rfl, fin⟩) hs
/-! ### xs[i] = v, any sign -/
/-- the list's object behind a store -/
theorem mapSeq_set (its : List Value) (n j : Nat) (u : Value) : Obj.mapSeq (·.setIfInBounds j u) { cls := .type "list", data := .seq its.toArray n } = { cls := .type "list", data := .seq (its.set j u).toArray n } := by
  simp [Obj.mapSeq]
theorem Inv.lst {pins : List (Addr × Obj)} {σ : St} {H : Hp} {s : Shared} {p : Addr} {xs : List V} (I : Inv X pins σ H s) (h : H p = some (.lst xs)) :
    ∃ (its : List Value) (n : Nat), Vals xs its ∧ s.heap.get? p = some { cls := .type "list", data := .seq its.toArray n } ∧ xs.length ≤ sizeLine := by
  obtain ⟨z, its, n, r, e⟩ := I.hok p _ h
  exact ⟨its, n, r, e, z⟩
/-- the list at p is written by an update of its object -/
theorem Inv.lstUpd {pins : List (Addr × Obj)} {σ : St} {H : Hp} {s : Shared} {p : Addr} {xs ys : List V} {its its' : List Value} {n n' : Nat} {f : Obj → Obj} (I : Inv X pins σ H s) (h : H p = some (.lst xs))
    (ho : s.heap.get? p = some { cls := .type "list", data := .seq its.toArray n }) (hf : f { cls := .type "list", data := .seq its.toArray n } = { cls := .type "list", data := .seq its'.toArray n' }) (r : Vals ys its') (hz : ys.length ≤ sizeLine) (t : Nat) :
    Inv X pins σ (upd H p (.lst ys)) { s with heap := s.heap.update p f, toks := t } := by
  have e : (s.heap.update p f).get? p = some { cls := .type "list", data := .seq its'.toArray n' } := by
    rw [Heap.get?_update_self f ho (by rw [hf] <;> rfl), hf]
  refine I.write (x := p) (e := p) (by rw [h]; trivial) (.inl rfl) (fun b u hb q => (Heap.get?_update_other _ _ (Ne.symm hb)).trans q) ⟨_, e⟩ ?_
  exact ⟨hz, its', n', r, e⟩
noncomputable def rSetL : V → V → V → Hp → (Hp → Prop) → Prop := fun o i v H Q => ∃ p xs k j, o = .ref p ∧ i = .int k ∧ H p = some (.lst xs) ∧ ixN xs.length k = some j ∧ Q (upd H p (.lst (xs.set j v)))
theorem set_list : PSet X rSetL := by
  intro pins s σ H o i v ov iv u Q I ro ri rv h
  obtain ⟨p, xs, k, j, rfl, rfl, hp, hj, q⟩ := h
  cases ro
  obtain ⟨t, rfl⟩ := ri
  obtain ⟨its, n, r, ho, hz⟩ := I.lst hp
  obtain ⟨h1, h2, h3, h4⟩ := ixN_seq hj
  have hl := r.length
  have hn := line63
  have I' : Inv X pins σ (upd H p (.lst (xs.set j v))) { s with heap := s.heap.update p (Obj.mapSeq (·.setIfInBounds j u)) } :=
    I.lstUpd hp ho (mapSeq_set its n j u) (r.set rv j) (by rw [List.length_set]; exact hz) s.toks
  by_cases h0 : 0 ≤ k
  · have hk : k.toNat = j := by
      rw [seqIndex_of h0 h4] at h1
      exact Option.some.inj h1
    exact PySem.W.ki_setAt ho h0 (by omega) (by rw [List.size_toArray, ← hl]; exact h4) (by rw [hk]; exact ⟨_, I', q⟩)
  · have hk : (k + (its.toArray.size : Int)).toNat = j := by
      rw [seqIndex_neg (by omega) h3] at h1
      rw [List.size_toArray, ← hl]
      exact Option.some.inj h1
    exact PySem.W.ki_setBack ho (by omega) (by rw [List.size_toArray, ← hl]; exact h3) (by omega) (by rw [hk]; exact ⟨_, I', q⟩)

/-! ### slices -/
theorem slice_bounds (lo hi : Option Int) (n : Nat) : (sliceBounds lo hi none n).1 = ((HT.sIx n 0 lo : Nat) : Int) ∧ (sliceBounds lo hi none n).2.1 = ((HT.sIx n n hi : Nat) : Int) ∧ (sliceBounds lo hi none n).2.2 = 1 := by
  refine ⟨?_, ?_, rfl⟩
  · cases lo with
    | none => simp [sliceBounds, HT.sIx]
    | some i =>
      simp only [sliceBounds, HT.sIx, Option.getD_none, show (1 : Int) > 0 by decide, if_true]
      by_cases h : i < 0
      · simp only [h, if_true] <;> omega
      · simp only [h, if_false] <;> omega
  · cases hi with
    | none => simp [sliceBounds, HT.sIx]
    | some i =>
      simp only [sliceBounds, HT.sIx, Option.getD_none, show (1 : Int) > 0 by decide, if_true]
      by_cases h : i < 0
      · simp only [h, if_true] <;> omega
      · simp only [h, if_false] <;> omega
theorem slicePick_cut (its : List Value) (lo hi : Option Int) : slicePick its.toArray lo hi none = ((its.drop (HT.sIx its.length 0 lo)).take (HT.sIx its.length its.length hi - HT.sIx its.length 0 lo)).toArray := by
  obtain ⟨h1, h2, h3⟩ := slice_bounds lo hi its.toArray.size
  unfold slicePick
  rw [h1, h2, h3]
  simp only [sliceRange_one, pick_run, List.size_toArray] <;> rfl
/-- xs[lo:hi] of a list: a new list -/
noncomputable def rSlL (K : PySem.W.Frag) : V → Option Int → Option Int → Hp → VK → Prop := fun x lo hi H Q => ∃ a xs, x = .ref a ∧ SqL K H a xs ∧ ∀ p, H p = none → Q (.ref p) (upd H p (.lst (cutV xs lo hi)))
theorem sl_list : SlR X (rSlL X.K) := by
  intro pins s σ H x v vl vu lo hi sl Q I rx hs pl pu h
  obtain ⟨a, xs, rfl, hx, q⟩ := h
  cases rx
  obtain ⟨its, r, ht, hz⟩ := I.list hx
  have hlen := r.length
  refine ⟨"list", _, slot_list_getitem.lookup, ht.isList.typeIs, ?_⟩
  refine wpAny_getItem_list_slice ht.isList hs pl pu .none (by simp) ?_ (by rw [List.size_toArray] <;> omega)
  rw [slicePick_cut, ← hlen]
  refine ⟨.ref s.heap.objs.size, _, I.laid (t' := s.toks) (o := .lst (cutV xs lo hi)) (fun b ob q => Heap.get?_push_of_some _ q) (Nat.le_refl _) ?_, rfl, q _ (I.hok.fresh (Nat.le_refl _))⟩
  exact ⟨Nat.le_trans (cutV_length xs lo hi) hz, _, 0, (r.drop (HT.sIx xs.length 0 lo)).take (HT.sIx xs.length xs.length hi - HT.sIx xs.length 0 lo), Heap.get?_push_size _ rfl⟩

/-! ### len, list(x), tuple(x) of any list or tuple that is read -/
theorem call_len_seq : CallR X (.builtin "len") (fun xs H Q => ∃ p ys, xs = [.ref p] ∧ (SqL X.K H p ys ∨ SqT X.K H p ys) ∧ Q (.int ys.length) H) := by
  intro pins s σ H xs us Q I r h
  obtain ⟨p, ys, rfl, hq, q⟩ := h
  obtain ⟨u, rfl, rx⟩ := vals1 r
  cases rx
  have hn := line63
  rcases hq with hq | hq
  · obtain ⟨its, r', pl, hz⟩ := I.list hq
    have hlen := r'.length
    exact Calls.call_len_list pl.isList (by simp only [List.size_toArray] <;> omega) ⟨.int ys.length, H, I.tok _, ⟨s.toks + 1, by rw [List.size_toArray, hlen]⟩, q⟩
  · obtain ⟨its, r', pl, hz⟩ := I.tuple hq
    have hlen := r'.length
    exact len_tuple pl (by simp only [List.size_toArray] <;> omega) ⟨.int ys.length, H, I.tok _, ⟨s.toks + 1, by rw [List.size_toArray, hlen]⟩, q⟩
theorem CallR.or {f : Value} {r r' : List V → Hp → VK → Prop} (h : CallR X f r) (h' : CallR X f r') : CallR X f (fun xs H Q => r xs H Q ∨ r' xs H Q) := by
  intro pins s σ H xs us Q I rs q
  rcases q with q | q
  · exact h pins s σ H xs us Q I rs q
  · exact h' pins s σ H xs us Q I rs q
theorem call_list_of : CallR X (.type "list") (fun xs H Q => ∃ p ys, xs = [.ref p] ∧ (SqL X.K H p ys ∨ SqT X.K H p ys) ∧ ∀ l, H l = none → Q (.ref l) (upd H l (.lst ys))) := by
  intro pins s σ H xs us Q I r h
  obtain ⟨p, ys, rfl, hq, q⟩ := h
  obtain ⟨u, rfl, rx⟩ := vals1 r
  cases rx
  have fin : ∀ (its : List Value), Vals ys its → ys.length ≤ sizeLine → ∀ (h' : Heap) (c' : Nat), (∀ b o', s.heap.get? b = some o' → h'.get? b = some o') →
      h'.get? s.heap.objs.size = some { cls := .type "list", dict := none, data := .seq its.toArray c', slots := #[] } → EP X pins σ Q (.ref s.heap.objs.size) { s with heap := h' } := fun its r' hz h' c' kp e =>
    ⟨.ref s.heap.objs.size, _, I.laid (t' := s.toks) kp (Nat.le_refl _) (show ObjOk X.prog X.w _ h' _ (.lst ys) from ⟨hz, its, c', r', e⟩), rfl, q _ (I.hok.fresh (Nat.le_refl _))⟩
  rcases hq with hq | hq
  · obtain ⟨its, r', pl, hz⟩ := I.list hq
    have hlen := r'.length
    obtain ⟨o, ho, hc, n, hd⟩ := pl.isList
    exact call_list_seq p (.inl rfl) ho hc hd (fun h' c' kp e => fin its r' hz h' c' kp e) (by simp only [List.size_toArray] <;> omega)
  · obtain ⟨its, r', pl, hz⟩ := I.tuple hq
    have hlen := r'.length
    obtain ⟨o, ho, hc, n, hd⟩ := pl
    exact call_list_seq p (.inr rfl) ho hc hd (fun h' c' kp e => fin its r' hz h' c' kp e) (by simp only [List.size_toArray] <;> omega)
theorem call_tuple_of : CallR X (.type "tuple") (fun xs H Q => ∃ p ys, xs = [.ref p] ∧ ((SqL X.K H p ys ∧ ∀ l, H l = none → Q (.ref l) (upd H l (.tup ys))) ∨ (SqT X.K H p ys ∧ Q (.ref p) H))) := by
  intro pins s σ H xs us Q I r h
  obtain ⟨p, ys, rfl, h⟩ := h
  obtain ⟨u, rfl, rx⟩ := vals1 r
  cases rx
  rcases h with ⟨hq, q⟩ | ⟨hq, q⟩
  · obtain ⟨its, r', pl, hz⟩ := I.list hq
    have hlen := r'.length
    refine call_tuple_list pl.isList (fun h' kp => ?_) (by simp only [List.size_toArray] <;> omega)
    have I1 : Inv X pins σ H { s with heap := h' } := I.kept (t' := s.toks) kp
    have I2 : Inv X pins σ (upd H h'.objs.size (.tup ys)) { s with heap := h'.push { cls := .type "tuple", data := .seq its.toArray } } :=
      I1.laid (t' := s.toks) (fun b o e => Heap.get?_push_of_some _ e) (Nat.le_refl _) (show ObjOk X.prog X.w _ _ _ (.tup ys) from ⟨hz, its, r', IsTup.new _ _⟩)
    exact ⟨.ref h'.objs.size, _, I2, rfl, q _ (I1.hok.fresh (Nat.le_refl _))⟩
  · obtain ⟨its, r', pl, hz⟩ := I.tuple hq
    exact call_tuple_same pl ⟨.ref p, H, I, rfl, q⟩

/-! ### the call of a builtin's method: o.m(..) -/
/-- the value is of that builtin type -/
noncomputable def tyV (K : PySem.W.Frag) (T : String) (x : V) (H : Hp) : Prop := match x with
  | .str _ => T = "str"
  | .int _ => T = "int"
  | .ref p => (T = "list" ∧ ∃ xs, SqL K H p xs) ∨ (T = "tuple" ∧ ∃ o, K.lookup p = some o ∧ o.cls = .type "tuple" ∧ o.dict = none) ∨
      (T = "dict" ∧ ((∃ kvs, H p = some (.dK kvs)) ∨ ∃ kvs, H p = some (.dT kvs))) ∨ (T = "set" ∧ ∃ S n, H p = some (.set S n))
  | _ => False
theorem tyV_is {pins : List (Addr × Obj)} {σ : St} {H : Hp} {s : Shared} {T : String} {x : V} {v : Value} (I : Inv X pins σ H s) (r : RelV x v) (ty : tyV X.K T x H) :
    s.TypeIs v T ∧ ∀ a, v = .ref a → ∃ ob, s.heap.get? a = some ob ∧ ob.dict = none := by
  cases x with
  | str z =>
    obtain ⟨t, rfl⟩ := r
    cases (show T = "str" from ty)
    exact ⟨typeIs_str s z t, fun _ e => nomatch e⟩
  | int i =>
    obtain ⟨t, rfl⟩ := r
    cases (show T = "int" from ty)
    exact ⟨typeIs_int s i t, fun _ e => nomatch e⟩
  | ref p =>
    cases r
    rcases ty with ⟨rfl, xs, hq⟩ | ⟨rfl, o, hk, hc, hd⟩ | ⟨rfl, hk⟩ | ⟨rfl, S, n, hk⟩
    · obtain ⟨its, _, pl, _⟩ := I.list hq
      refine ⟨pl.isList.typeIs, fun a e => ?_⟩
      cases e
      obtain ⟨o, n, e, c, hd, _⟩ := pl
      exact ⟨o, e, hd⟩
    · refine ⟨⟨o, I.kIn p o hk, hc⟩, fun a e => ?_⟩
      cases e
      exact ⟨o, I.kIn _ o hk, hd⟩
    · have z : ∃ o, s.heap.get? p = some o ∧ o.ExactDict := by
        rcases hk with ⟨kvs, hk⟩ | ⟨kvs, hk⟩
        · obtain ⟨_, _, _, _, o, _, _, e, ex, _⟩ := I.hok p _ hk
          exact ⟨o, e, ex⟩
        · obtain ⟨_, _, _, _, o, _, _, e, ex, _⟩ := I.hok p _ hk
          exact ⟨o, e, ex⟩
      obtain ⟨o, e, ex⟩ := z
      refine ⟨⟨o, e, ex.1⟩, fun a e2 => ?_⟩
      cases e2
      exact ⟨o, e, ex.2.1⟩
    · obtain ⟨o, _, _, _, e, ex, _⟩ := I.hok p _ hk
      refine ⟨⟨o, e, ex.1⟩, fun a e2 => ?_⟩
      cases e2
      exact ⟨o, e, ex.2.1⟩
  | _ => exact False.elim ty
noncomputable def tBM (K : PySem.W.Frag) (T : String) (r : V → List V → Hp → VK → Prop) (to : TE) (t : TA) : TE := fun σ H Q => to σ H fun x H1 => tyV K T x H1 ∧ t σ H1 fun xs H2 => r x xs H2 Q
variable {o e : Expr} {es : List Expr} {to : TE} {t : TA} {name : Str} {apos cpos : Pos} {T id : String} {r : V → List V → Hp → VK → Prop}
theorem pe_bm (pa : PlainAttrs T) (slot : Slot T name id) (hty : typeOf (.builtin id) = pure (.type "method_descriptor")) (hm : MtR X id r) (ho : PE X o to) (ha : PA X (e :: es) t)
    (hbase : attributeBase o name X.env (eval o X.env) = eval o X.env := by rfl)
    (hfew : ((backTo cpos (starEach (e :: es) X.env)).all (fun x => !x.1) && (backToKw cpos (keywordEach [] X.env)).all (fun x => x.1.isSome)
      && decide ((e :: es).length + ([] : List Keyword).length + (if ([] : List Keyword).isEmpty then 0 else 1) < 30)) = true := by rfl)
    (hline : (apos.endLine == cpos.line) = true := by rfl) (hs : starEach (e :: es) X.env = (false, eval e X.env) :: starEach es X.env := by rfl) (hplain : (backTo cpos (starEach es X.env)).any (·.1) = false := by rfl) :
    PE X (.Call (.Attribute o name apos) (e :: es) [] cpos) (tBM X.K T r to t) := by
  intro pins s σ H Q I h
  refine wpAny_Call_method_late hbase hfew hline rfl (thn (ho pins s σ H _ I h) fun v s1 ⟨x, H1, I1, r1, ty, q1⟩ => ?_)
  obtain ⟨h1, h2⟩ := tyV_is I1 r1 ty
  refine ⟨T, id, pa, slot, hty, h1, h2, ?_⟩
  have hA := ha cpos pins s1 σ H1 _ I1 q1
  rw [hs] at hA ⊢
  refine Calls.callWith_builtin (by show (false || (backTo cpos (starEach es X.env)).any (·.1)) = false; rw [hplain] <;> rfl) (Calls.evalArgs_plain ?_)
  exact thn hA fun us s2 ⟨vs, H2, I2, r2, q2⟩ => hm pins s2 σ H2 x vs v us Q I2 r1 r2 q2
/- xs.append(e), list.index on a module's tuple .. are MtR facts of 06m -/
end
end L2

namespace L2
open PySem PySem.Spec PyProof.Rows

noncomputable def MtM (X : Cx) (id : String) (r : V → List V → Hp → VK → Prop) : Prop :=
  ∀ (pins : List (Addr × Obj)) (s : Shared) (σ : St) (H : Hp) (x : V) (xs : List V) (v : Value) (us : List Value) (Q : VK), Inv X pins σ H s → RelV x v → Vals xs us → r x xs H Q →
    wpAny (model X.prog X.w) X.A (call (.builtin id) (v :: us)) (EP X pins σ Q) X.xe s

/-! ### lists of values -/
theorem Vals.one : ∀ {x : V} {us : List Value}, Vals [x] us → ∃ u, us = [u] ∧ RelV x u
  | _, _, .cons r .nil => ⟨_, rfl, r⟩
theorem Vals.rep {xs : List V} {us : List Value} (h : Vals xs us) : ∀ k : Nat, Vals (List.replicate k xs).flatten (List.replicate k us).flatten
  | 0 => .nil
  | k + 1 => by
    rw [List.replicate_succ, List.replicate_succ, List.flatten_cons, List.flatten_cons]
    exact Vals.append h (Vals.rep h k)
theorem foldl_rep (its : List Value) : ∀ (k : Nat) (acc : List Value),
    List.foldl (fun x1 x2 => x1 ++ x2) acc.toArray (List.replicate k its.toArray) = (acc ++ (List.replicate k its).flatten).toArray
  | 0, acc => by simp
  | k + 1, acc => by
    have e : acc.toArray ++ its.toArray = (acc ++ its).toArray := by simp
    have e2 : (acc ++ its) ++ (List.replicate k its).flatten = acc ++ (List.replicate (k + 1) its).flatten := by
      rw [List.replicate_succ, List.flatten_cons, List.append_assoc]
    rw [← e2, ← foldl_rep its k (acc ++ its), ← e, List.replicate_succ, List.foldl_cons]

section
variable {X : Cx} {pins : List (Addr × Obj)} {σ : St} {H : Hp} {s : Shared} {l b : Addr} {xs ys zs : List V}

/-! ### the two steps: a tracked list is rewritten, a new list is laid -/
theorem Inv.lset {its its' : List Value} {n : Nat} {f : Array Value → Array Value} {t' : Nat} (I : Inv X pins σ H s) (hH : H l = some (.lst xs))
    (e : s.heap.get? l = some { cls := .type "list", data := .seq its.toArray n }) (hf : f its.toArray = its'.toArray) (hv : Vals ys its') (hz : ys.length ≤ sizeLine) :
    Inv X pins σ (upd H l (.lst ys)) { s with heap := s.heap.update l (Obj.mapSeq f), toks := t' } := by
  have q := PySem.IsL.update e f
  rw [hf] at q
  refine I.write (x := l) (e := l) (by rw [hH]; exact trivial) (.inl rfl) (fun b' u hb hu => (Heap.get?_update_other s.heap (Obj.mapSeq f) (Ne.symm hb)).trans hu) ⟨_, q⟩ ?_
  exact ⟨hz, its', _, hv, q⟩
theorem Inv.lnew {its : List Value} {t' : Nat} (I : Inv X pins σ H s) (hv : Vals ys its) (hz : ys.length ≤ sizeLine) :
    Inv X pins σ (upd H s.heap.objs.size (.lst ys)) { s with heap := s.heap.push { cls := .type "list", data := .seq its.toArray }, toks := t' } :=
  I.laid (fun _ _ q => Heap.get?_push_of_some _ q) (Nat.le_refl _) ⟨hz, its, 0, hv, Heap.get?_push_size _ rfl⟩
theorem Inv.fresh (I : Inv X pins σ H s) : H s.heap.objs.size = none := I.hok.fresh (Nat.le_refl _)
theorem Inv.lstM (I : Inv X pins σ H s) (hH : H l = some (.lst xs)) : xs.length ≤ sizeLine ∧ ∃ (its : List Value) (n : Nat), Vals xs its ∧ xs.length = its.length ∧ s.heap.get? l = some { cls := .type "list", data := .seq its.toArray n } := by
  obtain ⟨z, its, n, r, e⟩ := I.hok l _ hH
  exact ⟨z, its, n, r, r.length, e⟩

theorem notLongL {n : Nat} (h : n ≤ sizeLine) : Builtin.List.listTooLong n = false := by
  unfold Builtin.List.listTooLong
  exact decide_eq_false (by omega)
end

section
variable {X : Cx}

/-! ### methods -/
noncomputable def rAppend : V → List V → Hp → VK → Prop := fun x vs H Q => ∃ l xs y, x = .ref l ∧ vs = [y] ∧ H l = some (.lst xs) ∧ xs.length < sizeLine ∧ Q .non (upd H l (.lst (xs ++ [y])))
theorem mt_append : MtM X "list.append" rAppend := by
  intro pins s σ H x vs v us Q I rx rv h
  obtain ⟨l, xs, y, rfl, rfl, hH, hz, q⟩ := h
  cases rx
  obtain ⟨u, rfl, ru⟩ := rv.one
  obtain ⟨z, its, n, r, hl, e⟩ := I.lstM hH
  refine call_meets F.slot_list_append ⟨_, e, rfl⟩ F.entry_list_append (F.args_list_append_2 _ _) (PySem.list_append l its.toArray n u (by rw [List.size_toArray]; omega)) ⟨e, ?_⟩
  refine ⟨.non, _, I.lset (its' := its ++ [u]) hH e (by simp) (r.append (.cons ru .nil)) ?_, rfl, q⟩
  rw [List.length_append, List.length_singleton]
  omega

/-- a list times an int (a negative one is nothing) -/
noncomputable def rRep : R2 := fun x y H Q => ∃ l k xs, x = .ref l ∧ y = .int k ∧ H l = some (.lst xs) ∧ -(2 ^ 63) ≤ k ∧ k < 2 ^ 63 ∧ xs.length * k.toNat ≤ sizeLine ∧
  ∀ p, H p = none → Q (.ref p) (upd H p (.lst (List.replicate k.toNat xs).flatten))
theorem len_rep {α : Type} (xs : List α) (k : Nat) : (List.replicate k xs).flatten.length = k * xs.length := by
  induction k with
  | zero => simp
  | succ k ih => rw [List.replicate_succ, List.flatten_cons, List.length_append, ih, Nat.succ_mul, Nat.add_comm]
theorem op_rep : OpR X (binaryOp .Mult) rRep := by
  intro pins s σ H x y v u Q I rx ry h
  obtain ⟨l, k, xs, rfl, rfl, hH, h1, h2, hz, q⟩ := h
  cases rx
  obtain ⟨t, rfl⟩ := ry
  obtain ⟨z, its, n, r, hl, e⟩ := I.lstM hH
  have hlen : its.toArray.size * k.toNat ≤ sizeLine := by rw [List.size_toArray, ← hl]; exact hz
  have hcap : ¬ its.toArray.size * k.toNat > (2 ^ 63 - 1) / 8 := by
    have : (sizeLine : Nat) ≤ (2 ^ 63 - 1) / 8 := by decide
    omega
  have hfit : ¬ (!Builtin.List.listFitsIndex k) = true := by
    rw [fitsIndex_both h1 h2]
    exact Bool.false_ne_true
  have hlong : ¬ Builtin.List.listTooLong (its.toArray.size * k.toNat) = true := by
    rw [notLongL hlen]
    exact Bool.false_ne_true
  have hnew : List.foldl (fun x1 x2 => x1 ++ x2) #[] (List.replicate (if its.toArray.isEmpty = true then 0 else k.toNat) its.toArray) = (List.replicate k.toNat its).flatten.toArray := by
    have f0 : ∀ m : Nat, List.foldl (fun x1 x2 => x1 ++ x2) #[] (List.replicate m its.toArray) = (List.replicate m its).flatten.toArray := fun m => by
      have := foldl_rep its m []
      rw [List.nil_append] at this
      exact this
    rw [f0]
    cases its with
    | nil => simp
    | cons a r' => rw [if_neg (by simp)]
  refine wpAny_binaryOp_repeat_ref (T := "list") (U := "int") (by decide) ⟨_, e, rfl⟩ (fun s' => typeIs_int s' k t) noFill_list_mul F.fills_int_mul F.slot_int_rmul repeat_list F.slot_int_index.lookup
    (call_meets F.slot_int_rmul (typeIs_int s k t) F.entry_int_rmul (F.args_int_rmul_2 _ _) (int___rmul___int_list k t l its.toArray n)
      ⟨e, rfl, ⟨_, e, rfl⟩, call_meets F.slot_list_mul ⟨_, e, rfl⟩ F.entry_list_mul (F.args_list_mul_2 _ _) (AutoListH.list___mul___list_int_3 l its.toArray n k t hfit hcap hlong) ⟨e, ?_⟩⟩)
  rw [hnew]
  exact ⟨.ref _, _, I.lnew (t' := s.toks) (r.rep k.toNat) (by rw [len_rep, Nat.mul_comm]; exact hz), rfl, q _ I.fresh⟩

end

/-! ### xs[a:b] = ys -/
section
variable {prog : Program} {w : World} {A : Around} {E : Value → Shared → Prop} {s : Shared}
end

section
variable {X : Cx}
end
end L2

namespace Att
open PySem PySem.W PySem.Calls PyProof.Rows

/-! ### the script -/
theorem ints_of_wellAll {P : Params} {h : Heap} : ∀ (ns : List Int) (vs : List Value), WellAll P h vs (ns.map WData.int) → IntsAre vs ns := by
  intro ns
  induction ns with
  | nil =>
    intro vs w
    rw [List.map_nil] at w
    cases w
    exact .nil
  | cons n ns ih =>
    intro vs w
    rw [List.map_cons] at w
    cases w with
    | cons a b =>
      cases a
      exact .cons _ _ (ih _ b)

theorem script_of {l : OpenLaw} {n : Nat} (hn : l.most = some n) {P : Params} {h : Heap} {args : List WData} {vals : List Value}
    (hpre : l.row.toRowW.claim.pre args = true) (hwl : WellAll P h vals args) :
    ∃ a vs ns, vals = [Value.ref a] ∧ args = [WData.list (ns.map WData.int)] ∧ h.get? a = some { cls := .type "list", data := .seq vs.toArray } ∧ IntsAre vs ns ∧ ns.length ≤ n := by
  have hsh : WShape.hasAll [] args [.list .int] = true := (pre_splitW hpre).1
  have hc : l.pre.holds [] { args := args } = true := (pre_splitW hpre).2
  obtain ⟨d, r, rfl, h1, h2⟩ := hasAllW_cons hsh
  obtain rfl := hasAllW_nil h2
  obtain ⟨xs, rfl, h3⟩ := hasW_list h1
  obtain ⟨ns, rfl⟩ := items_int h3
  have hlen : ns.length ≤ n := by
    unfold OpenLaw.pre at hc
    have h4 : (WTm.not (.lt (.lit (.int (n : Int))) (.len (.arg 0)))).holds [] { args := [.list (ns.map .int)] } = true := by
      have h4 := (holds_andW hc).1
      rw [hn] at h4
      exact h4
    have h5 := condW_of h4 (w_not (w_lt w_lit (w_len_list (w_arg rfl))))
    rw [List.length_map] at h5
    refine Nat.le_of_not_lt fun q => ?_
    have q' : (n : Int) < ((ns.length : Nat) : Int) := by omega
    first
      | (rw [decide_eq_true q'] at h5; exact absurd h5 (by decide))
      | (simp at h5; omega)
  cases hwl with
  | cons w1 w2 =>
    cases w2
    cases w1 with
    | list ho hall => exact ⟨_, _, ns, rfl, rfl, ho, ints_of_wellAll ns _ hall, hlen⟩

theorem post_true (l : OpenLaw) (args : List WData) : l.row.toRowW.claim.post args (.bool true) args = true :=
  postW_of (r := l.row.toRowW) (X := (true == true))
    (show WShape.has [] (.bool true) .bool = true by first | rfl | decide | simp [WShape.has, WShape.arms, WShape.armsAll])
    (show (WTm.eq .res (.lit (.bool true))).value [] { args := args, res := some (.bool true), after := args } = some (.bool (true == true)) from w_eq_bool (w_res rfl) w_lit) rfl

/-- the same from a codeAny of the CALL (for a layer whose function contracts speak of calls) -/
theorem attach_call {l : OpenLaw} {n : Nat} {q : Program} {loose : List Str} {XP : (Str → Option Value) → Heap → Prop} {YP : World → Heap → Prop} {d : DefRec}
    (hn : l.most = some n) (hdf : d.params.defaults = [])
    (call : ∀ (w : World) (s₀ s₁ : Shared) (mg mb : Str → Option Value) (fa : Addr) (o : Obj) (pm cd doc : Value) (a : Addr) (vs : List Value) (ns : List Int),
      Ground q loose [] XP w s₀ mg mb s₁.heap → YP w s₁.heap →
      s₁.heap.get? fa = some o → o.data = .func (docDef d.name d.params d.body d.scope pm cd doc) → s₁.heap.CodeRec cd d.name → mg d.name = some (.ref fa) →
      s₁.heap.get? a = some { cls := .type "list", data := .seq vs.toArray } → IntsAre vs ns → ns.length ≤ n → s₁.gens = #[] →
      codeAny (model l.prog w) callerA (.call (.ref fa) ⟨[.ref a], []⟩) (fun r s' => r = .ok (.ret (.bool true)) ∧ OldK s₁.heap s'.heap ∧ s'.os = s₁.os ∧ AllBare s'.gens) s₁) :
    WalkO q loose XP YP l.row.toRowW d [] (fun f vs => PySem.call f vs) := by
  intro w s₀ s₁ mg mb G Y fa o pm cd doc dV kV ho hd hcd hD hmg hg args vals as hpre hlay hrd hwl hlo
  obtain rfl : dV = .none := Dflts.none hD hdf
  obtain rfl : kV = .none := Dflts.noKw hD
  obtain ⟨a, vs, ns, rfl, rfl, hobj, hints, hlen⟩ := script_of hn hpre hwl
  refine enter_call (codeAny_mono (call w s₀ s₁ mg mb fa o pm cd doc a vs ns G Y ho (fd_plain hd) hcd hmg hobj hints hlen hg) fun r s' hq => ?_)
  obtain ⟨rfl, h2, h3, h4⟩ := hq
  exact ⟨.inl ⟨.bool true, .bool true, [], rfl, fun _ => rfl, .bool true, post_true l _, fun _ => ⟨List.Pairwise.nil, fun _ hm => (nomatch hm)⟩⟩, h2, h3, h4⟩

/-! ### rules over ANY heap (no ledger) from facts about the written part K: the library's own take a ledger (News) for what they write -/
section
variable {prog : Program} {w : World} {A : Around} {E : Value → Shared → Prop} {s : Shared} {K : Frag}

end
end Att

namespace L2
open PySem PySem.Spec PyProof.Rows

theorem vals_ints : ∀ {vs : List Value} {ns : List Int}, IntsAre vs ns → Vals (ns.map V.int) vs
  | _, _, .nil => .nil
  | _, _, .cons n t h => .cons ⟨t, rfl⟩ (vals_ints h)

/-- nothing is tracked but the script, known to the object (or it is an object of the module) -/
noncomputable def Only (H : Hp) : Prop := ∀ b, H b = none ∨ ∃ o xs, H b = some (.frz o (.lst xs))

/-- THE HEAD: the law's promise, at the heap behind the top. F, the promise of the law's def, may use that base is part of the heap (so K.In base, base.Ns mainGlobals mg stand in Mod) -/
theorem law_call {P : Program} {w : World} {K : PySem.W.Frag} {mg mb : Str → Option Value} {CX : CXT} {k : Nat} {fa a : Addr} {fd : FuncData} {x : Str} {sp : Sp} {s₁ : Shared} {vs : List Value} {ns : List Int}
    (KX : K.In s₁.heap) (hns : s₁.heap.Ns mainGlobals mg) (hb : s₁.heap.Ns builtinsNs mb) (hbb : ∀ x : Str, x ≠ "__name__" → mb x = bootBuiltins x) (hlim : s₁.heap.NoLimit) (hg : s₁.gens = #[])
    (ha : s₁.heap.get? a = some { cls := .type "list", data := .seq vs.toArray }) (hi : IntsAre vs ns) (hl : ns.length ≤ sizeLine) (hr : Room k callerA)
    (F : ∀ base : Heap, K.In base → base.Ns mainGlobals mg → FnOk P w K mg base CX k fa fd [x] sp) (hbind : ∀ (s : Shared) (u : Value), BindsTo s fd ⟨[u], []⟩ [(x, u)])
    (hsp : ∀ H : Hp, Only H → SqL K H a (ns.map V.int) → sp [.ref a] H (fun v _ => v = .bl true) fun _ _ _ => False)
    (hCX : ∀ H e s', CX [] H s₁ (fun _ _ _ => False) e s' → False) :
    codeAny (model P w) callerA (.call (.ref fa) ⟨[.ref a], []⟩) (fun r s' => r = .ok (.ret (.bool true)) ∧ OldK s₁.heap s'.heap ∧ s'.os = s₁.os ∧ AllBare s'.gens) s₁ := by
  have rv := vals_ints hi
  have lenV := hi.length
  -- from an abstract heap in which nothing but the script may be tracked
  have core : ∀ H : Hp, Only H → SqL K H a (ns.map V.int) → HOk P w H s₁.heap → (∀ b, H b ≠ none → b = a) → (H a ≠ none → K.lookup a = none) →
      codeAny (model P w) callerA (.call (.ref fa) ⟨[.ref a], []⟩) (fun r s' => r = .ok (.ret (.bool true)) ∧ OldK s₁.heap s'.heap ∧ s'.os = s₁.os ∧ AllBare s'.gens) s₁ := by
    intro H hO hS hok hA hK
    have base_of : ∀ {b : Addr} {o : Obj}, s₁.heap.get? b = some o → H b = none → (hidT s₁.heap H).get? b = some o := fun e n => hidT_get e n
    have noA : ∀ {b : Addr} {o : Obj} {es : Array DictEntry} {ep : Nat}, s₁.heap.get? b = some o → o.data = .dict es ep → H b = none := fun {b o es ep} e d => by
      cases q : H b with
      | none => rfl
      | some u =>
        have e' : b = a := hA b (by rw [q]; simp)
        subst e'
        rw [ha] at e; cases e
        have d' : Data.seq vs.toArray _ = Data.dict es ep := d
        cases d'
    have nsK : ∀ {b : Addr} {m : Str → Option Value}, s₁.heap.Ns b m → (hidT s₁.heap H).Ns b m := fun {b m} ⟨o, es, ep, e, d, r⟩ => ⟨o, es, ep, base_of e (noA e d), d, r⟩
    have hKb : K.In (hidT s₁.heap H) := fun b o e => base_of (KX b o e) (by
      cases q : H b with
      | none => rfl
      | some u =>
        have e' : b = a := hA b (by rw [q]; simp)
        subst e'
        rw [hK (by rw [q]; simp)] at e; cases e)
    have hM : Mod K mg (hidT s₁.heap H) := ⟨hKb, nsK hns, ⟨mb, nsK hb, hbb⟩, let ⟨mc, h1, h2⟩ := hlim; ⟨mc, nsK h1, h2⟩⟩
    have e0 : Env0 P w K mg (hidT s₁.heap H) callerA [] s₁ H := ⟨rfl, hM, fun b o e => of_hidT e, Nat.le_of_eq (hidT_size _ _), trivial, fun b hb => absurd (show b ∈ ([] : List Addr) from hb) (by simp), hok, .of_eq hg⟩
    refine codeAny_mono ((F _ hKb (nsK hns)).run callerA [] s₁ H ⟨[.ref a], []⟩ [.ref a] [.ref a] _ _ hr e0 (hbind s₁ (.ref a)) (.cons rfl .nil) (hsp H hO hS)) fun r s' h => ?_
    cases r with
    | error e => exact (hCX H e s' h).elim
    | ok fl =>
      cases fl with
      | next => exact False.elim h
      | brk => exact False.elim h
      | cont => exact False.elim h
      | ret u =>
        obtain ⟨v, H', os, bare, un, hok', r', q⟩ := h
        have q' : v = .bl true := q
        subst q'
        obtain rfl : u = Value.bool true := r'
        refine ⟨rfl, OldK.of_keep fun b o e => ?_, os, bare⟩
        cases q : H b with
        | none => exact un.keep b o e q (by intro z; exact absurd (show b ∈ ([] : List Addr) from z) (by simp)) (by simp)
        | some u =>
          rcases hO b with z | ⟨ob, xs, z⟩
          · rw [q] at z; cases z
          · have z2 := un.frzs b ob _ z
            obtain ⟨e1, _⟩ := hok b _ z
            obtain ⟨e2, _⟩ := hok' b _ z2
            rw [e] at e1; cases e1
            exact e2
  cases hk : K.lookup a with
  | some o =>
    -- the script is one of the module's own objects
    have e := KX a o hk
    rw [ha] at e
    cases e
    refine core (fun _ => none) (fun _ => .inl rfl) (.inr ⟨_, vs.toArray, _, hk, rfl, rfl, rfl, by rw [List.size_toArray, lenV]; exact hl, by simpa using rv⟩) (fun b u z => by have z' : (none : Option HO) = some u := z; cases z') (fun b z => absurd rfl z) fun z => absurd rfl z
  | none =>
    refine core (fun b => if b = a then some (.frz { cls := .type "list", data := .seq vs.toArray } (.lst (ns.map V.int))) else none) (fun b => ?_) (.inl (.inr ⟨{ cls := .type "list", data := .seq vs.toArray }, if_pos rfl⟩)) (fun b u z => ?_) (fun b z => ?_) fun _ => hk
    · by_cases hb : b = a
      · exact .inr ⟨_, _, if_pos hb⟩
      · exact .inl (if_neg hb)
    · by_cases hb : b = a
      · have z' := (if_pos hb).symm.trans z
        cases z'
        subst hb
        exact ⟨ha, by rw [List.length_map]; exact hl, vs, _, rv, ha⟩
      · have z' := (if_neg hb).symm.trans z
        cases z'
    · by_cases hb : b = a
      · exact hb
      · exact absurd (if_neg hb) z
end L2

namespace L2
open PySem PySem.Spec PyProof.Rows

/-- the goal that k_head leaves (case hc), from the law's promise. F gives the function object fd (K's own) once, then the promise over every base -/
theorem walk_of {l : PySem.W.OpenLaw} {n k : Nat} {q : Program} {loose : List Str} {XP : (Str → Option Value) → Heap → Prop} {YP : World → Heap → Prop} {d : DefRec} {K : Params → PySem.W.Frag} {CX : World → CXT} {sp : World → Sp} {x : Str}
    (hn : l.most = some n) (hn2 : n ≤ sizeLine) (hdf : d.params.defaults = []) (hr : Room k callerA)
    (hY : ∀ (w : World) (h : Heap), YP w h → (K w.params).In h)
    (F : ∀ (w : World) (mg : Str → Option Value) (fa : Addr) (h : Heap), (K w.params).In h → h.Ns mainGlobals mg → mg d.name = some (.ref fa) →
      ∃ fd : FuncData, (∀ (s : Shared) (u : Value), BindsTo s fd ⟨[u], []⟩ [(x, u)]) ∧
        ∀ base : Heap, (K w.params).In base → base.Ns mainGlobals mg → FnOk l.prog w (K w.params) mg base (CX w) k fa fd [x] (sp w))
    (hsp : ∀ (w : World) (H : Hp) (a : Addr) (ns : List Int), ns.length ≤ n → Only H → SqL (K w.params) H a (ns.map V.int) → sp w [.ref a] H (fun v _ => v = .bl true) fun _ _ _ => False)
    (hCX : ∀ (w : World) (H : Hp) (s : Shared) (e : Value) (s' : Shared), CX w [] H s (fun _ _ _ => False) e s' → False) :
    PySem.W.WalkO q loose XP YP l.row.toRowW d [] (fun f vs => PySem.call f vs) := by
  refine Att.attach_call hn hdf fun w s₀ s₁ mg mb fa o pm cd doc a vs ns G Y ho hd hcd hmg hobj hints hlen hg => ?_
  have KX := hY w _ Y
  obtain ⟨fd, hb, hF⟩ := F w mg fa _ KX G.T.g hmg
  exact law_call KX G.T.g G.T.b G.T.builtins G.T.nolimit hg hobj hints (Nat.le_trans hlen hn2) hr hF hb (fun H hO hS => hsp w H a ns hlen hO hS) fun H e s' => hCX w H s₁ e s'
end L2

/- THE LAST THEOREM (shape; LID, My.* are yours):
   My.Adr: a structure of the addresses that your layer names (classes, functions); My.Txt K t: a structure (Prop) of the equations over K;
   My.txt_mk : {K} {implicit addresses ..} (e1 : nsIn K mainGlobals "law" = some (some (.ref f))) (e2 : K.lookup f = some ⟨oc, od, .func (fnOf "law" "law" params body scope dV kV doc pm an cdv ct), sl⟩) (e3 : codeIn K cdv "law" = true) .. : ∃ t, My.Txt K t

set_option maxRecDepth 100000 in
set_option maxHeartbeats 0 in
theorem PySem.Challenge.cw_LID_holds : PySem.Challenge.rw_LID.Holds := by
  w_on; o_law; k_head; (case hw => w_witness2)
  k_fill
  refine L2.walk_of (l := PySem.Challenge.rw_LID) (n := 63) (k := 40) (x := "script") (CX := fun w => ..) (sp := fun _ => My.sp_law) rfl (by decide) rfl ⟨rfl, by decide, by decide⟩ (fun w h Y => PySem.W.kIn_of Y) ?F ?S ?C
  case F =>
    intro w mg fa h KX G hmg
    have T : ∃ t, My.Txt (L2.KOf KX) t := by
      dsimp only [L2.KOf]                          -- K must stand as «<heap const> w.params» for k_is
      refine' My.txt_mk ?e1 ?e2 ?e3 ..
      (case e1 => PySem.W.k_is)                    -- in the order: a name -> its address -> its object -> its parts
      (case e2 => PySem.W.k_is)
      ..
    obtain ⟨t, T⟩ := T
    have e0 := hmg.symm.trans (PySem.W.mg_of KX G T.law)
    cases e0                                       -- fa is the law's own address
    exact ⟨_, fun s u => .of_eq rfl, fun base kb nb => My.law_fn T kb nb⟩     -- if «.of_eq rfl» comes too early: refine' ⟨_, ?b, fun base kb nb => My.law_fn T kb nb⟩; exact fun s u => .of_eq rfl
  case S => exact fun w H a ns hl hO hS => ..
  case C => exact ..
(the tactic k_is has no namespace: write k_is) -/

/-! SHORT WORDS over the layer: a def of the text, its body, what a loop and a test want. -/
namespace L2
open PySem PySem.Spec PyProof.Rows

/-! ### the text by places -/
/-- the j-th statement of a class's body -/
noncomputable def inClass (s : Stmt) (j : Nat) : Stmt := match s with
  | .ClassDef _ _ _ body _ _ _ _ _ _ _ => body.getD j (.Pass ⟨0, 0, 0, 0⟩)
  | _ => .Pass ⟨0, 0, 0, 0⟩
noncomputable def defArgs (s : Stmt) : Arguments := match s with
  | .FunctionDef _ a _ _ _ _ _ _ _ _ => a
  | _ => { posonlyargs := [], args := [], vararg := none, kwonlyargs := [], kw_defaults := [], kwarg := none, defaults := [] }
noncomputable def defBody (s : Stmt) : List Stmt := match s with
  | .FunctionDef _ _ b _ _ _ _ _ _ _ => b
  | _ => []
noncomputable def defScope (s : Stmt) : Scope := match s with
  | .FunctionDef _ _ _ _ _ _ sc _ _ _ => sc
  | _ => { kind := .function, names := [], isGenerator := false, isCoroutine := false }

/-! ### no exception leaves a def -/
noncomputable abbrev CX0 : CXT := fun _ _ _ _ _ _ => False
noncomputable abbrev E0 : XK := fun _ _ _ => False
theorem pass0 {X : Cx} : Passes CX0 X E0 := fun _ _ _ _ _ _ _ h => h.elim

/-! ### a def (or method) of the text as it stands behind the top -/
structure Fun (K : PySem.W.Frag) (x qual : Str) (st : Stmt) (f : Addr) (fd : FuncData) : Prop where
  ex : ∃ (oc : Value) (od : Option Addr) (kV doc pm : Value) (an : Option Addr) (cdv ct : Value) (osl : Array (Option Value)),
    fd = PySem.W.fnOf x qual (defArgs st) (defBody st) (defScope st) .none kV doc pm an cdv ct ∧ K.lookup f = some ⟨oc, od, .func fd, osl⟩ ∧ PySem.W.codeIn K cdv qual = true
  kp : PySem.W.keepIn K (.ref f) = true
section
variable {P : Program} {w : World} {K : PySem.W.Frag} {mg : Str → Option Value} {base : Heap}
/-- THE RULE for a def: its body as a term of rules, and the reading of that term -/
theorem Fun.ok {x qual : Str} {st : Stmt} {f : Addr} {fd : FuncData} {N ps : List Str} {k : Nat} {sp : Sp} (F : Fun K x qual st f fd) (S : FnScope N ps (defScope st)) (len : ∀ vs H Q E, sp vs H Q E → vs.length = ps.length)
    (hbody : ∀ (cdv : Value) (A : Around) (outer : List Env) (s : Shared) (H : Hp) (vs : List V) (Q : VK) (E : XK), Room k (A.deeper (envOfC qual (defScope st) s.heap.objs.size f cdv)) → sp vs H Q E →
      ∃ t, PSs (cxOf CX0 P w K mg base N qual (defScope st) f cdv A outer s H E).nox (defBody st) t ∧ t { nx := fun _ H' => Q .non H', rt := Q } (start N vs) H) : FnOk P w K mg base CX0 (k + 1) f fd ps sp := by
  obtain ⟨oc, od, kV, doc, pm, an, cdv, ct, osl, rfl, lk, hcd⟩ := F.ex
  refine fn_of lk hcd S len fun A outer s H vs Q E hr hsp => ?_
  obtain ⟨t, h, q⟩ := hbody cdv A outer s H vs Q E hr hsp
  exact ⟨t, h.nox, q⟩
/-- how its arguments bind (no defaults): h is «fun _ _ _ _ _ _ us hl => match us, hl with | [_, _], _ => rfl», one _ a parameter -/
theorem Fun.binds {x qual : Str} {st : Stmt} {f : Addr} {fd : FuncData} {ps : List Str} (F : Fun K x qual st f fd)
    (h : ∀ (kV doc pm : Value) (an : Option Addr) (cdv ct : Value) (us : List Value), us.length = ps.length → bindArgs (PySem.W.fnOf x qual (defArgs st) (defBody st) (defScope st) .none kV doc pm an cdv ct) ⟨us, []⟩ = pure (ps.zip us)) : Binds K fd ps [] := by
  obtain ⟨oc, od, kV, doc, pm, an, cdv, ct, osl, rfl, lk, hcd⟩ := F.ex
  exact .all (h kV doc pm an cdv ct)
theorem fun_mk {x qual : Str} {st : Stmt} {f : Addr} {oc : Value} {od an : Option Addr} {osl : Array (Option Value)} {kV doc pm cdv ct : Value} (l : K.lookup f = some ⟨oc, od, .func (PySem.W.fnOf x qual (defArgs st) (defBody st) (defScope st) .none kV doc pm an cdv ct), osl⟩)
    (c : PySem.W.codeIn K cdv qual = true) (k : PySem.W.keepIn K (.ref f) = true) : Fun K x qual st f (PySem.W.fnOf x qual (defArgs st) (defBody st) (defScope st) .none kV doc pm an cdv ct) := ⟨⟨oc, od, kV, doc, pm, an, cdv, ct, osl, rfl, l, c⟩, k⟩
end
theorem hu_of {A : Around} {k : Nat} (hr : Room k A) : A.units + 1 < cLine := Nat.lt_of_le_of_lt (Nat.add_le_add_left (by decide : 1 ≤ 64) _) hr.units
theorem small1000 {n : Nat} (h : n ≤ 1000) : n < sizeLine := Nat.lt_of_le_of_lt h (by decide)

/-! ### expressions in short: the name that stands in the i-th slot -/
section
variable {X : Cx}
theorem pv (i : Nat) {x : Str} {pos : Pos} (hN : X.N[i]? = some x := by rfl) (hv : Vis X.env.scope x := by first | exact Or.inl rfl | exact Or.inr (Or.inl rfl) | exact Or.inr (Or.inr rfl)) (hd : (x == ("__debug__" : Str)) = false := by decide)
    (hcd : (x == ("__classdict__" : Str)) = false := by decide) : PE X (.Name x pos) (tVar i) := pe_var hN hv hd hcd
end

/-! ### tests -/
theorem iteF {A B : Prop} (h : B) : if false = true then A else B := by
  rw [if_neg Bool.false_ne_true]
  exact h
theorem iteT {A B : Prop} (h : A) : if true = true then A else B := by
  rw [if_pos rfl]
  exact h
theorem iteNS {c A B : Prop} [Decidable c] (hc : c) (h : B) : if (!decide c) = true then A else B := by
  rw [decide_eq_true hc]
  exact iteF h

/-! ### heaps -/
/-- all that was tracked is as it was -/
noncomputable def Same (H H' : Hp) : Prop := ∀ b o, H b = some o → H' b = some o
theorem Same.refl (H : Hp) : Same H H := fun _ _ h => h
theorem Same.trans {H H1 H2 : Hp} (a : Same H H1) (b : Same H1 H2) : Same H H2 := fun c o h => b c o (a c o h)
theorem Same.free {H H' : Hp} (e : Same H H') {l : Addr} (h : H' l = Option.none) : H l = Option.none := by
  cases q : H l with
  | none => rfl
  | some o =>
    rw [e l o q] at h
    cases h
theorem Same.seq {K : PySem.W.Frag} {H H' : Hp} {a : Addr} {xs : List V} (e : Same H H') (h : SqL K H a xs) : SqL K H' a xs := by
  rcases h with (h | ⟨o, h⟩) | h
  · exact .inl (.inl (e _ _ h))
  · exact .inl (.inr ⟨o, e _ _ h⟩)
  · exact .inr h

end L2

namespace L2
open PySem PySem.Spec PyProof.Rows

/-! ### a list comprehension of one clause, without a test -/
theorem closure_of {scope : Scope} {env : Env} (h : ∀ x ∈ scope.names, x.2 = .free → ∃ c, env.cells.lookup x.1 = some c) :
    ∃ cl, closureFor scope env = pure cl ∧ (∀ x c, cl.lookup x = some c → env.cells.lookup x = some c) ∧ (∀ x ∈ scope.names, x.2 = .free → ∃ c, cl.lookup x.1 = some c) := by
  have key : ∀ (l : List (Str × NameKind)) (acc : List (Str × Addr)), (∀ x ∈ l, x.2 = .free → ∃ c, env.cells.lookup x.1 = some c) → (∀ x c, acc.lookup x = some c → env.cells.lookup x = some c) →
      ∃ cl, (forIn l acc fun (x : Str × NameKind) (r : List (Str × Addr)) => (match x with
        | (name, kind) => if (kind == NameKind.free) = true then (do let c ← cellOf env name; pure (ForInStep.yield ((name, c) :: r))) else (do pure PUnit.unit; pure (ForInStep.yield r)) : Sem (ForInStep (List (Str × Addr))))) = pure cl ∧
        (∀ x c, cl.lookup x = some c → env.cells.lookup x = some c) ∧ (∀ x ∈ l, x.2 = .free → ∃ c, cl.lookup x.1 = some c) ∧ (∀ x c, acc.lookup x = some c → ∃ c', cl.lookup x = some c') := by
    intro l
    induction l with
    | nil => intro acc _ ha; exact ⟨acc, rfl, ha, fun x hx => (by simp at hx), fun x c e => ⟨c, e⟩⟩
    | cons x r ih =>
      intro acc hl ha
      obtain ⟨n, k⟩ := x
      by_cases hk : k = .free
      · subst hk
        obtain ⟨c, hc⟩ := hl (n, .free) List.mem_cons_self rfl
        have ha' : ∀ x c', ((n, c) :: acc).lookup x = some c' → env.cells.lookup x = some c' := fun x c' e => by
          rw [List.lookup_cons] at e
          by_cases hx : x = n
          · subst hx; simp at e; rw [← e]; exact hc
          · have : (x == n) = false := by simpa using hx
            rw [this] at e; exact ha x c' e
        obtain ⟨cl, e1, e2, e3, e4⟩ := ih ((n, c) :: acc) (fun y hy => hl y (List.mem_cons_of_mem _ hy)) ha'
        refine ⟨cl, ?_, e2, fun y hy hf => ?_, fun y c' e => ?_⟩
        · rw [List.forIn_cons]
          have hcell : cellOf env n = pure c := by unfold cellOf; rw [hc]
          simp only [beq_self_eq_true, if_true, hcell]
          exact e1
        · rcases List.mem_cons.mp hy with e | hy
          · subst e
            exact e4 n c (by simp)
          · exact e3 y hy hf
        · by_cases hy : y = n
          · subst hy; exact e4 y c (by simp)
          · have : (y == n) = false := by simpa using hy
            exact e4 y c' (by rw [List.lookup_cons, this]; exact e)
      · obtain ⟨cl, e1, e2, e3, e4⟩ := ih acc (fun y hy => hl y (List.mem_cons_of_mem _ hy)) ha
        refine ⟨cl, ?_, e2, fun y hy hf => ?_, e4⟩
        · rw [List.forIn_cons]
          have : (k == NameKind.free) = false := by simpa using hk
          simp only [this, Bool.false_eq_true, if_false]
          exact e1
        · rcases List.mem_cons.mp hy with e | hy
          · subst e; exact absurd hf hk
          · exact e3 y hy hf
  obtain ⟨cl, e1, e2, e3, _⟩ := key scope.names [] h (fun x c e => by simp at e)
  refine ⟨cl, ?_, e2, e3⟩
  unfold closureFor
  exact (congrArg (fun z => z >>= pure) e1).trans rfl

/-- the block's scope as the block sees it, its names as the frame around has them -/
theorem lookup_relab (f : Str → NameKind → NameKind) (x : Str) : ∀ l : List (Str × NameKind), (l.map fun y => (y.1, f y.1 y.2)).lookup x = (l.lookup x).map (f x)
  | [] => rfl
  | (n, k) :: r => by
    have ih := lookup_relab f x r
    rw [List.map_cons, List.lookup_cons, List.lookup_cons]
    by_cases hx : x = n
    · subst hx; simp
    · have hb : (x == n) = false := by simpa using hx
      rw [hb]; exact ih
theorem relabel_lookup {scope : Scope} {env : Env} {x : Str} : (relabel scope env).names.lookup x =
    (scope.names.lookup x).map fun k => if (k == .free && env.scope.kind == .function && env.kindOf x == some .cell) then .cell else k := by
  rw [← lookup_relab (fun n k => if (k == .free && env.scope.kind == .function && env.kindOf n == some .cell) then .cell else k)]
  unfold relabel
  refine congrArg (List.lookup x) (List.map_congr_left fun y _ => ?_)
  obtain ⟨n, k⟩ := y
  show (if (k == NameKind.free && env.scope.kind == .function && env.kindOf n == some .cell) = true then (n, NameKind.cell) else (n, k)) = _
  split <;> rfl

/-- what a block must be: of N (the frame's names), N' (its own: targets, then what it takes from the frame, by cap) -/
noncomputable def compOk (N N' : List Str) (sc scE : Scope) (cap : List (Option Nat)) : Bool :=
  sc.kind == .function && sc.names.all (fun x => x.2 != .cell) && sc.names.all (fun x => x.2 != .local || sc.names.lookup x.1 == some .local) &&
  sc.names.all (fun x => x.2 != .free || scE.names.lookup x.1 == some .cell || scE.names.lookup x.1 == some .free) && cap.length == N'.length &&
  (List.range cap.length).all (fun i => match cap[i]? with
    | some (some j) => (match N'[i]?, N[j]? with | some a, some b => a == b && sc.names.lookup a == some .free | _, _ => false)
    | _ => true)
structure CompOk (N N' : List Str) (sc scE : Scope) (cap : List (Option Nat)) : Prop where
  kind : sc.kind = .function
  nocell : ∀ x ∈ sc.names, x.2 ≠ .cell
  loc : ∀ x ∈ sc.names, x.2 = .local → sc.names.lookup x.1 = some .local
  fre : ∀ x ∈ sc.names, x.2 = .free → scE.names.lookup x.1 = some .cell ∨ scE.names.lookup x.1 = some .free
  len : cap.length = N'.length
  at_ : ∀ (i j : Nat), cap[i]? = some (some j) → ∃ x, N'[i]? = some x ∧ N[j]? = some x ∧ sc.names.lookup x = some .free
theorem compOk.of {N N' : List Str} {sc scE : Scope} {cap : List (Option Nat)} (h : compOk N N' sc scE cap = true) : CompOk N N' sc scE cap := by
  unfold compOk at h
  simp only [Bool.and_eq_true, List.all_eq_true, beq_iff_eq, Bool.or_eq_true, bne_iff_ne] at h
  obtain ⟨⟨⟨⟨⟨h1, h2⟩, h3⟩, h4⟩, h5⟩, h6⟩ := h
  refine ⟨h1, h2, fun x hx e => ?_, fun x hx e => ?_, h5, fun i j e => ?_⟩
  · rcases h3 x hx with z | z
    · exact absurd e z
    · exact z
  · rcases h4 x hx with (z | z) | z
    · exact absurd e z
    · exact .inl z
    · exact .inr z
  · have hi : i < cap.length := (List.getElem?_eq_some_iff.mp e).1
    have := h6 i (List.mem_range.mpr hi)
    rw [e] at this
    simp only at this
    cases e1 : N'[i]? with
    | none => rw [e1] at this; cases this
    | some a =>
      cases e2 : N[j]? with
      | none => rw [e1, e2] at this; cases this
      | some b =>
        rw [e1, e2] at this
        simp only [Bool.and_eq_true, beq_iff_eq] at this
        obtain ⟨rfl, z⟩ := this
        exact ⟨a, rfl, rfl, z⟩

/-- the values that the block takes along -/
noncomputable def capOf (cap : List (Option Nat)) (σ : St) : St := cap.map fun c => c.bind fun j => (σ[j]?).join
/-- the block's context -/
noncomputable def blk (X : Cx) (N' : List Str) (sc : Scope) (cl : List (Str × Addr)) (C : Addr) (s0 : Shared) (H0 : Hp) (ex : List Addr) : Cx :=
  { X with N := N', s₀ := s0, H₀ := H0, env := compEnvC sc cl C X.env, outer := X.stack, ex := ex, fn := fun _ => false, pn := [], xe := fun _ _ => False }

/-- the body of a comprehension behind its source -/
noncomputable def compBody (J : It) (cap : List (Option Nat)) (g : TG) (te : TE) (σ : St) (H1 : Hp) (Q : VK) : Prop := ∀ acc, H1 acc = none →
  ∃ W : Nat → Nat → List V → St → Hp → Prop, (∃ m, W 0 m [] (capOf cap σ) (upd H1 acc (.lst []))) ∧ ∀ i m ys σ' H', W i m ys σ' H' → H' acc = some (.lst ys) ∧
    ((J.stop i H' ∧ Q (.ref acc) H') ∨ (J.go i H' ∧ ys.length < sizeLine ∧ ∀ x H2, J.yld i H' x H2 → g x σ' H2 fun σ3 H3 => te σ3 H3 fun y H4 =>
      H4 acc = some (.lst ys) ∧ ∃ m', m' < m ∧ W (i + 1) m' (ys ++ [y]) σ3 (upd H4 acc (.lst (ys ++ [y])))))
noncomputable def tComp (cap : List (Option Nat)) (wi : TI) (g : TG) (te : TE) : TE := fun σ H Q => wi σ H fun J H1 => compBody J cap g te σ H1 Q

section
variable {prog : Program} {w : World} {A : Around} {R : Result → Shared → Prop} {s : Shared}
theorem compLoop_any {elt target iter : Expr} {scope : Scope} {pos : Pos} {it acc : Value} {env : Env} (I : Nat → Shared → Prop)
    (turn : ∀ n s, I n s → wpAny (model prog w) A (pyNext it) (fun r s₁ => match r with
      | none => R (.ok .next) s₁
      | some v => wpAny (model prog w) A (letOwnedTupleGo target it v) (fun _ s₁' => wpAny (model prog w) A (assign target env v) (fun _ s₂ =>
          wpAny (model prog w) A (eval elt env) (fun x s₄ =>
              wpAny (model prog w) A (call (.builtin "list.append") [acc, x]) (fun _ s₅ => ∃ m, m < n ∧ I m s₅) (fun _ _ => False) s₄) (fun _ _ => False) s₂)
          (fun _ _ => False) s₁') (fun _ _ => False) s₁) (fun _ _ => False) s)
    (n : Nat) (h : I n s) : codeAny (model prog w) A (.compLoop (.ListComp elt [⟨target, iter, [], 0⟩] scope pos) 0 it acc env) R s := by
  refine codeAny_loop rfl I (fun n s hI => ?_) n h
  show wpAny _ A ((compTurn (.ListComp elt [⟨target, iter, [], 0⟩] scope pos) 0 it acc env).onRaise (fun x => do noteFrame x env; theTreesLotGoes x)) _ _ s
  refine wpAny_noted ?_
  rw [compTurn_list]
  refine wpAny_bind (wpAny_standAt (wpAny_bind (wpAny_mono (turn n s hI) (fun r s₁ h₁ => ?_) fun _ _ h' => h'.elim)))
  cases r with
  | none => exact wpAny_pure h₁
  | some v =>
    refine wpAny_bind (wpAny_mono h₁ (fun _ s₁' h₁' => ?_) fun _ _ h' => h'.elim)
    refine wpAny_bind (wpAny_mono h₁' (fun _ s₂ h₂ => wpAny_bind (wpAny_mono (wpAny_tests_nil (Q := fun ok s₃ => ok = true ∧ s₃ = s₂) ⟨rfl, rfl⟩) (fun ok s₃ h₃ => ?_) fun _ _ h' => h')) fun _ _ h' => h'.elim)
    obtain ⟨rfl, rfl⟩ := h₃
    exact wpAny_bind (wpAny_bind (wpAny_mono h₂ (fun x s₄ h₄ => wpAny_bind (wpAny_mono h₄ (fun _ s₅ h₅ => wpAny_pure (wpAny_pure ⟨rfl, h₅⟩)) fun _ _ h' => h'.elim)) fun _ _ h' => h'.elim))
end

section
variable {X : Cx}
/-- an untracked record is replaced -/
theorem HOk.same {P : Program} {w : World} {H : Hp} {h h' : Heap} {a : Addr} (ok : HOk P w H h) (hn : H a = none) (hs : Heap.SameBut a h h') : HOk P w H h' := fun b ob e => by
  refine (ok b ob e).stay (fun c w' hc q => (hs.2 c ?_).trans q) (fun _ q => q) fun _ _ q => q
  rintro rfl
  rcases hc with rfl | hc
  · rw [hn] at e; cases e
  · rw [hn] at hc; cases hc

theorem blk_inv {pins : List (Addr × Obj)} {σ : St} {H : Hp} {s : Shared} {N N' : List Str} {sc scE : Scope} {cap : List (Option Nat)} {cl : List (Str × Addr)} {fp : List Addr} {h₁ : Heap} {m : Str → Option Value}
    (I : Inv X pins σ H s) (hN : X.N = N) (hE : X.env.scope = scE) (ck : CompOk N N' sc scE cap) (c1 : ∀ x c, cl.lookup x = some c → X.env.cells.lookup x = some c) (c2 : ∀ x ∈ sc.names, x.2 = .free → ∃ c, cl.lookup x.1 = some c)
    (hf : ∀ b ∈ fp, FpOk X pins H b) (hfs : ∀ b ∈ fp, b < s.heap.objs.size)
    (hns : h₁.Ns s.heap.objs.size m) (keep : ∀ b o, s.heap.get? b = some o → h₁.get? b = some o) {tk : Nat} :
    Inv (blk X N' sc cl s.heap.objs.size s H fp) [] (capOf cap σ) H { s with heap := h₁, toks := tk } := by
  have kindOf : ∀ x k, (compEnvC sc cl s.heap.objs.size X.env).kindOf x = some k → k = .cell ∨ k = .free → sc.names.lookup x = some .free := fun x k e hk => by
    have e' : (relabel sc X.env).names.lookup x = some k := e
    rw [relabel_lookup] at e'
    cases q : sc.names.lookup x with
    | none => rw [q] at e'; cases e'
    | some k' =>
      rw [q] at e'
      have hk' : k' ≠ .cell := ck.nocell _ (PySem.mem_of_lookup q)
      have e'' : (if (k' == NameKind.free && X.env.scope.kind == .function && X.env.kindOf x == some .cell) = true then NameKind.cell else k') = k := Option.some.inj e'
      by_cases hc : (k' == NameKind.free && X.env.scope.kind == .function && X.env.kindOf x == some .cell) = true
      · simp only [Bool.and_eq_true, beq_iff_eq] at hc
        rw [hc.1.1]
      · rw [if_neg hc] at e''
        subst e''
        rcases hk with z | z
        · exact absurd z hk'
        · rw [z]
  have lt : ∀ b o, s.heap.get? b = some o → b ≠ s.heap.objs.size := fun b o e => Nat.ne_of_lt (Heap.lt_size e)
  have cellAt : ∀ x c, X.env.cells.lookup x = some c → ∀ v, s.heap.IsCell c v → h₁.IsCell c v := fun x c e v ⟨o, ho, hd⟩ => ⟨o, keep c o ho, hd⟩
  refine ⟨⟨I.ok.mod, ck.kind, I.ok.glob, I.ok.blt, Nat.le_refl _, fun x y c a b => I.ok.inj x y c (c1 x c a) (c1 y c b), fun x hx => ?_, fun x c h => (by cases h), I.ok.hd, I.ok.frames, .inl rfl, fun b hb => ?_, I.bs,
    Nat.le_trans I.ok.bsz I.sz, fun b o e hb => ?_, fun b hb hz => ?_, I.stack, I.stkFree⟩, rfl, I.bare, Un.kept keep, ⟨m, hns, fun i x v e1 e2 e3 => ?_⟩, fun x c e => ?_, I.hok.fresh (Nat.le_refl _), fun x c e => I.freeC x c (c1 x c e), fun p hp => (by cases hp), I.hok.kept keep, ?_⟩
  · have hx : (compEnvC sc cl s.heap.objs.size X.env).kindOf x = some .cell ∨ (compEnvC sc cl s.heap.objs.size X.env).kindOf x = some .free := hx
    have q : sc.names.lookup x = some .free := by
      rcases hx with z | z
      · exact kindOf x _ z (.inl rfl)
      · exact kindOf x _ z (.inr rfl)
    exact c2 _ (PySem.mem_of_lookup q) rfl
  · refine ⟨Nat.ne_of_lt (hfs b hb), fun x c e => (hf b hb).2.2.2.2.1 x c (c1 x c e)⟩
  · rcases (hf b hb).2.2.2.1 with z | z
    · exact I.ok.noex b o e z
    · exact absurd (Nat.lt_of_lt_of_le (Heap.lt_size e) (Nat.le_trans I.ok.bsz z)) (Nat.lt_irrefl _)
  · rcases List.mem_cons.mp (I.stkSub b hz) with e | z
    · exact (hf b hb).2.1 e
    · exact (hf b hb).2.2.1 z
  · have e1 : N'[i]? = some x := e1
    have e2 : (capOf cap σ)[i]? = some (some v) := e2
    unfold capOf at e2
    rw [List.getElem?_map] at e2
    cases q : cap[i]? with
    | none => rw [q] at e2; cases e2
    | some oj =>
      rw [q] at e2
      cases oj with
      | none => cases e2
      | some j =>
        obtain ⟨y, z1, z2, z3⟩ := ck.at_ i j q
        rw [e1] at z1; cases z1
        have ev : σ[j]? = some (some v) := by
          have e2' : (σ[j]?).join = some v := Option.some.inj e2
          cases r : σ[j]? with
          | none => rw [r] at e2'; cases e2'
          | some o => rw [r] at e2'; exact congrArg some e2'
        obtain ⟨m', hm', hl⟩ := I.loc
        have sK : X.env.scope.names.lookup x = some .cell ∨ X.env.scope.names.lookup x = some .free := by rw [hE]; exact ck.fre _ (PySem.mem_of_lookup z3) rfl
        obtain ⟨u, ru, l⟩ := hl j x v (by rw [hN]; exact z2) ev (sK.elim (fun z => .inr (.inl z)) fun z => .inr (.inr z))
        refine ⟨u, ru, ?_⟩
        obtain ⟨c, hc⟩ := c2 _ (PySem.mem_of_lookup z3) rfl
        rcases l with ⟨k, _⟩ | ⟨k, c', hc', hcell⟩
        · have k : X.env.scope.names.lookup x = some .local := k
          rcases sK with z | z <;> (rw [k] at z; cases z)
        · have : c = c' := by
            have q1 := c1 x c hc
            rw [hc'] at q1
            exact (Option.some.inj q1).symm
          subst this
          refine .inr ⟨?_, c, hc, cellAt x c hc' _ hcell⟩
          show (relabel sc X.env).names.lookup x = some .cell ∨ (relabel sc X.env).names.lookup x = some .free
          rw [relabel_lookup, z3]
          show some (if _ then NameKind.cell else NameKind.free) = _ ∨ some (if _ then NameKind.cell else NameKind.free) = _
          split
          · exact .inl rfl
          · exact .inr rfl
  · obtain ⟨v, z⟩ := I.cell x c (c1 x c e)
    exact ⟨v, cellAt x c (c1 x c e) v z⟩
  · unfold capOf
    show _ = N'.length
    rw [List.length_map]
    exact ck.len

theorem comp_core {elt tg iter : Expr} {pos : Pos} {N N' : List Str} {sc scE : Scope} {cap : List (Option Nat)} {wi : TI} {g : TG} {te : TE} {use : Option (Value → Sem Unit)} {QQ : Value → Shared → Prop} (hcalm : X.calm = true) (hi : PI X tg iter wi)
    (hg : ∀ cl C s0 H0 ex, PG (blk X N' sc cl C s0 H0 ex) tg g) (he : ∀ cl C s0 H0 ex, PE (blk X N' sc cl C s0 H0 ex) elt te)
    (hN : X.N = N) (hE : X.env.scope = scE) (hc : compOk N N' sc scE cap = true) (hs : ∀ x, foldedSetIterable iter X.env x = pure x)
    {pins : List (Addr × Obj)} {s : Shared} {σ : St} {H : Hp} {Q : VK} (I : Inv X pins σ H s) (h : tComp cap wi g te σ H Q)
    (fin : ∀ acc C H' s' m, Inv X pins σ H' s' → s'.heap.Ns C m → FpOk X pins H' C → Q (.ref acc) H' → compPost (model X.prog X.w) X.A X.xe use QQ (.ref acc) C (.ok .next) s') {pos' : Pos} :
    wpAny (model X.prog X.w) X.A (comprehension (.ListComp elt [⟨tg, iter, [], 0⟩] sc pos) sc X.env pos' (newList []) false (eval iter X.env) use) QQ X.xe s := by
  have ck := compOk.of hc
  obtain ⟨cl, hcl, c1, c2⟩ := closure_of (scope := sc) (env := X.env) fun x hx hf => I.ok.has x.1 (by
    have := ck.fre x hx hf
    rw [← hE] at this
    exact this)
  refine wpAny_comprehension_free (use := use) rfl hs hcl ck.kind ck.loc (thn (hi pins s σ H _ I h) fun v s1 h1 => thn h1 fun itv s2 h2 => ?_)
  obtain ⟨it, fp, tn, J, H2, e, I2, T, st2, f2, hw⟩ := h2
  subst e
  have fsz : ∀ b ∈ fp, b < s2.heap.objs.size := fun b hb => by
    obtain ⟨o, e, _⟩ := T.obj _ _ st2 b hb
    exact Heap.lt_size e
  obtain ⟨W, ⟨m0, w0⟩, turn⟩ := hw s2.heap.objs.size I2.fresh
  refine wpAny_newObj_type (wpAny_newFunctionEnv ck.nocell (by intro y hy; simp at hy) (fun h₁ hns₁ hsb₁ => ?_) ck.kind)
  dsimp only at hns₁ hsb₁ ⊢
  have I3 : Inv X pins σ (upd H2 s2.heap.objs.size (.lst [])) { s2 with heap := s2.heap.push { cls := .type "list", data := .seq ([] : List Value).toArray } } :=
    I2.lnew (its := []) (ys := []) (t' := s2.toks) .nil (Nat.zero_le _)
  generalize hs3 : ({ s2 with heap := s2.heap.push { cls := .type "list", data := .seq ([] : List Value).toArray } } : Shared) = s3 at I3
  have hh3 : s3.heap = s2.heap.push { cls := .type "list", data := .seq ([] : List Value).toArray } := by rw [← hs3]
  have hsz : s3.heap.objs.size = s2.heap.objs.size + 1 := by rw [hh3, Heap.size_push]
  have f3 : ∀ b ∈ fp, FpOk X pins (upd H2 s2.heap.objs.size (.lst [])) b := fun b hb => by
    obtain ⟨g0, g1⟩ := f2 b hb
    exact ⟨by rw [upd_ne (Nat.ne_of_lt (fsz b hb))]; exact g0, g1⟩
  have k3 : ∀ b o, s2.heap.get? b = some o → s3.heap.get? b = some o := fun b o e => by rw [hh3]; exact Heap.get?_push_of_some _ e
  rw [← hh3] at hns₁ hsb₁
  have I4 : Inv (blk X N' sc cl s3.heap.objs.size s3 (upd H2 s2.heap.objs.size (.lst [])) fp) [] (capOf cap σ) (upd H2 s2.heap.objs.size (.lst [])) { s3 with heap := h₁, toks := s2.toks + ([] : List (Str × Value)).length } :=
    blk_inv I3 hN hE ck c1 c2 f3 (fun b hb => Nat.lt_of_lt_of_le (fsz b hb) (by rw [hsz]; exact Nat.le_succ _)) hns₁ fun b o e => hsb₁.extBut b o (Nat.ne_of_lt (Heap.lt_size e)) (Heap.get?_push_of_some _ e)
  have st4 : tn 0 h₁ := T.keep _ _ _ st2 fun b hb o e => hsb₁.extBut b o (Nat.ne_of_lt (Heap.lt_size (k3 b o e))) (Heap.get?_push_of_some _ (k3 b o e))
  generalize hX' : blk X N' sc cl s3.heap.objs.size s3 (upd H2 s2.heap.objs.size (.lst [])) fp = X' at I4
  have hxe : X'.xe = fun _ _ => False := by rw [← hX']; rfl
  have hprog : X'.prog = X.prog := by rw [← hX']; rfl
  have hww : X'.w = X.w := by rw [← hX']; rfl
  have hKK : X'.K = X.K := by rw [← hX']; rfl
  have hAA : X'.A = X.A := by rw [← hX']; rfl
  have hcc : X'.calm = true := by rw [← hX']; exact hcalm
  have henv : X'.env = compEnvC sc cl s3.heap.objs.size X.env := by rw [← hX']; rfl
  have hloc : X'.env.locals = s3.heap.objs.size := by rw [henv]; rfl
  have hg' : PG X' tg g := by rw [← hX']; exact hg _ _ _ _ _
  have he' : PE X' elt te := by rw [← hX']; exact he _ _ _ _ _
  have stat : ∀ {H' : Hp}, (∀ b ∈ fp, H' b = none) → ∀ b ∈ fp, FpOk X' [] H' b := fun {H'} hn b hb => by
    obtain ⟨_, g1, g2, g3, g4, g5⟩ := f3 b hb
    refine ⟨hn b hb, by rw [hloc, hsz]; exact Nat.ne_of_lt (Nat.lt_succ_of_lt (fsz b hb)), ?_, ?_, ?_, fun p hp => ?_⟩
    · rw [← hX']
      intro z
      rcases List.mem_cons.mp (I3.stkSub b z) with e | z
      · exact g1 e
      · exact g2 z
    · left
      rw [← hX']
      exact hb
    · intro x c e
      rw [henv] at e
      exact g4 x c (c1 x c e)
    · rw [← hX'] at hp
      cases hp
  have fin' : ∀ {σ' : St} {H' : Hp} {s' : Shared}, Inv X' [] σ' H' s' → Q (.ref s2.heap.objs.size) H' → compPost (model X.prog X.w) X.A X.xe use QQ (.ref s2.heap.objs.size) s3.heap.objs.size (.ok .next) s' := fun {σ' H' s'} J q => by
    obtain ⟨mm, hmm, _⟩ := J.loc
    rw [hloc] at hmm
    have hfree : H' s3.heap.objs.size = none := by have := J.free; rw [hloc] at this; exact this
    have hok := J.hok
    rw [hprog, hww] at hok
    have u1 : Un (frs X.stack) fp (upd H2 s2.heap.objs.size (.lst [])) H' s3.heap s'.heap := by
      have := J.base
      rw [← hX'] at this
      exact this
    have hos : s'.os = s3.os := by have := J.os; rw [← hX'] at this; exact this
    refine fin _ _ H' s' mm (I3.call' (s' := s') hos u1 hok J.bare fun b hb => ?_) hmm (I3.fpOk (Nat.le_refl _) hfree) q
    obtain ⟨_, g1, g2, g3, g4, g5⟩ := f3 b hb
    exact ⟨g3, g1, g4, g5⟩
  have loop : codeAny (model X.prog X.w) X.A (.compLoop (.ListComp elt [⟨tg, iter, [], 0⟩] sc pos) 0 (.ref it) (.ref s2.heap.objs.size) X'.env)
      (compPost (model X.prog X.w) X.A X.xe use QQ (.ref s2.heap.objs.size) s3.heap.objs.size) { s3 with heap := h₁, toks := s2.toks + ([] : List (Str × Value)).length } := by
    refine compLoop_any (fun n s' => ∃ i ys σ' H', Inv X' [] σ' H' s' ∧ tn i s'.heap ∧ (∀ b ∈ fp, H' b = none) ∧ W i n ys σ' H') ?_ m0 ⟨0, [], _, _, I4, st4, fun b hb => (f3 b hb).1, w0⟩
    rintro n s5 ⟨i, ys, σ5, H5, I5, st5, fr5, w5⟩
    obtain ⟨hacc, q⟩ := turn i n ys σ5 H5 w5
    rcases q with ⟨stop, q⟩ | ⟨go, hlen, step⟩
    · refine thn (hAA ▸ T.done X' hprog hww hKK hcc i [] s5 σ5 H5 _ I5 (stat fr5) st5 stop) fun r s6 ⟨hr, I6⟩ => ?_
      subst hr
      exact fin' I6 q
    · refine thn (hAA ▸ T.item X' hprog hww hKK hcc i [] s5 σ5 H5 _ I5 (stat fr5) st5 go) fun r s6 ⟨u, hr, h6⟩ => ?_
      subst hr
      refine thn h6 fun _ s7 ⟨x, H7, I7, r7, y7, st7, fr7⟩ => ?_
      have I7' := I7.pinned (stat fr7) (T.obj _ _ st7)
      have g7 := hg' _ s7 σ5 H7 x u _ I7' r7 (step x H7 y7)
      rw [hprog, hww, hAA, hxe] at g7
      refine thn g7 fun _ s8 ⟨σ8, H8, I8, q8⟩ => ?_
      have g8 := he' _ s8 σ8 H8 _ I8 q8
      rw [hprog, hww, hAA, hxe] at g8
      refine thn g8 fun y s9 ⟨yv, H9, I9, r9, a9, m', hm', w9⟩ => ?_
      obtain ⟨z, its, nn, rr, hl, e⟩ := I9.lstM a9
      refine call_meets F.slot_list_append ⟨_, e, rfl⟩ F.entry_list_append (F.args_list_append_2 _ _) (PySem.list_append _ its.toArray nn y (by rw [List.size_toArray]; omega)) ⟨e, ?_⟩
      have I10 : Inv X' ([] ++ pinsAt fp s7.heap) σ8 (upd H9 s2.heap.objs.size (.lst (ys ++ [yv]))) { s9 with heap := s9.heap.update s2.heap.objs.size (Obj.mapSeq fun a => a.push y) } :=
        I9.lset (t' := s9.toks) (its' := its ++ [y]) a9 e (by simp) (rr.append (.cons r9 .nil)) (by rw [List.length_append, List.length_singleton]; omega)
      refine ⟨m', hm', i + 1, _, σ8, _, I10.unpinned, T.keep _ _ _ st7 fun b hb o eo => (I10.pin (b, o) (List.mem_append_right _ (List.mem_append_right _ (mem_pinsAt hb eo)))).1, fun b hb => ?_, w9⟩
      obtain ⟨o, eo, d⟩ := T.obj _ _ st7 b hb
      exact (I10.pin (b, o) (List.mem_append_right _ (List.mem_append_right _ (mem_pinsAt hb eo)))).2.1
  rw [henv] at loop
  have goal := codeAny_compStart_list (rest := []) (ifs := []) loop (T.self X.A 0 _ _ _ st4 loop)
  subst hs3
  exact goal
theorem pe_comp {elt tg iter : Expr} {pos : Pos} {N N' : List Str} {sc scE : Scope} {cap : List (Option Nat)} {wi : TI} {g : TG} {te : TE} (hcalm : X.calm = true) (hi : PI X tg iter wi)
    (hg : ∀ cl C s0 H0 ex, PG (blk X N' sc cl C s0 H0 ex) tg g) (he : ∀ cl C s0 H0 ex, PE (blk X N' sc cl C s0 H0 ex) elt te)
    (hN : X.N = N := by rfl) (hE : X.env.scope = scE := by rfl) (hc : compOk N N' sc scE cap = true := by decide +kernel) (hs : ∀ x, foldedSetIterable iter X.env x = pure x := by intro _; rfl) :
    PE X (.ListComp elt [⟨tg, iter, [], 0⟩] sc pos) (tComp cap wi g te) := by
  intro pins s σ H Q I h
  rw [eval_ListComp]
  refine comp_core (use := none) hcalm hi hg he hN hE hc hs I h fun acc C H' s' m I' hm hf q => ⟨m, hm, fun h' hs' => ?_⟩
  obtain ⟨f0, f1, f2, f3, f4, f5⟩ := hf
  exact ⟨.ref acc, H', I'.turned (t' := s'.toks) (fun b o hb e => (hs'.2 b hb).trans e) f0 f1 f3 f4 f5, rfl, q⟩
/-- name = [..], where the stores are exchanged -/
theorem ps_comp {i : Nat} {x : Str} {px spos : Pos} {elt tg iter : Expr} {pos : Pos} {N N' : List Str} {sc scE : Scope} {cap : List (Option Nat)} {wi : TI} {g : TG} {te : TE} (hnd : X.N.Nodup) (hix : X.N[i]? = some x) (hx : Loc X.env.scope x) (hcalm : X.calm = true) (hi : PI X tg iter wi)
    (hg : ∀ cl C s0 H0 ex, PG (blk X N' sc cl C s0 H0 ex) tg g) (he : ∀ cl C s0 H0 ex, PE (blk X N' sc cl C s0 H0 ex) elt te)
    (hsw : swapsWith (.ListComp elt [⟨tg, iter, [], 0⟩] sc pos) (some (.Name x px)) spos.line X.env = pure true := by rfl)
    (hN : X.N = N := by rfl) (hE : X.env.scope = scE := by rfl) (hc : compOk N N' sc scE cap = true := by decide +kernel) (hs : ∀ x, foldedSetIterable iter X.env x = pure x := by intro _; rfl)
    (hf : X.fn x = true ∨ X.env.scope.names.lookup x = some .local := by first | exact .inl rfl | exact .inr rfl | assumption) :
    PS X (.Assign [.Name x px] (.ListComp elt [⟨tg, iter, [], 0⟩] sc pos) spos) (tAsg (tComp cap wi g te) (gName i)) := by
  intro pins s σ H D I h
  rw [exec_Assign_Name_used _ _ _ _ hsw]
  refine wpAny_bind (wpAny_standAt (wpAny_bind ?_))
  show wpAny _ _ (do let _ ← comprehension (.ListComp elt [⟨tg, iter, [], 0⟩] sc pos) sc X.env _ (newList []) false (eval iter X.env) (some (assign (.Name x px) X.env))) _ _ s
  refine wpAny_bind (wpAny_mono (comp_core (use := some (assign (.Name x px) X.env)) (QQ := fun _ s' => SP X pins D .next s') hcalm hi hg he hN hE hc hs I h ?_) (fun _ s' hq => wpAny_pure (wpAny_pure hq)) fun _ _ e => e)
  intro acc C H' s' m I' hm hfp q
  obtain ⟨f0, f1, f2, f3, f4, f5⟩ := hfp
  show wpAny _ _ (assign (.Name x px) X.env (.ref acc)) _ _ _
  refine wpAny_assign_Name (store_ok2 I' hnd hix hx (v := .ref acc) rfl (fun s2 I2 ⟨a, sb, ha⟩ => ⟨m, ?_, fun h' hs' => ?_⟩) hf)
  · refine hm.sameBut sb fun z => ?_
    rcases ha with ha | ha
    · exact f1 (z.trans ha)
    · exact f4 x a ha z.symm
  · exact ⟨_, H', I2.turned (t' := s2.toks) (fun b o hb e => (hs'.2 b hb).trans e) f0 f1 f3 f4 f5, q⟩
end
end L2

namespace L2
open PySem PySem.Spec PyProof.Rows

/-! ### a list or a tuple that an iterator walks -/
/-- t: a tuple; else a list -/
noncomputable def HasItems (t : Bool) (h : Heap) (a : Addr) (items : Array Value) : Prop := if t = true then h.IsTuple a items else h.IsList a items
noncomputable def IterAt (t : Bool) (h : Heap) (it a : Addr) (i : Nat) : Prop := if t = true then h.IsTupleIter it a i else h.IsListIter it a i
theorem HasItems.at {t : Bool} {h h' : Heap} {a : Addr} {items : Array Value} (x : HasItems t h a items) (k : ∀ o, h.get? a = some o → h'.get? a = some o) : HasItems t h' a items := by
  cases t
  · exact Heap.IsList.at x k
  · obtain ⟨o, e, r⟩ := x
    exact ⟨o, k o e, r⟩
theorem HasItems.there {t : Bool} {h : Heap} {a : Addr} {items : Array Value} (x : HasItems t h a items) : ∃ o, h.get? a = some o := by
  cases t
  · obtain ⟨o, e, _⟩ := x; exact ⟨o, e⟩
  · obtain ⟨o, e, _⟩ := x; exact ⟨o, e⟩
theorem IterAt.at {t : Bool} {h h' : Heap} {it a : Addr} {i : Nat} (x : IterAt t h it a i) (k : ∀ o, h.get? it = some o → h'.get? it = some o) : IterAt t h' it a i := by
  cases t
  · exact Heap.IsListIter.at x k
  · obtain ⟨o, e, r⟩ := x
    exact ⟨o, k o e, r⟩
theorem IterAt.there {t : Bool} {h : Heap} {it a : Addr} {i : Nat} (x : IterAt t h it a i) : ∃ o, h.get? it = some o ∧ ∀ v, o.data ≠ .cell v := by
  cases t
  · obtain ⟨o, e, _, d⟩ := x; exact ⟨o, e, fun v z => by rw [d] at z; cases z⟩
  · obtain ⟨o, e, _, d⟩ := x; exact ⟨o, e, fun v z => by rw [d] at z; cases z⟩

section
variable {prog : Program} {w : World} {A : Around} {E : Value → Shared → Prop} {s : Shared}
theorem nextOf_tuple_item {it l : Addr} {i : Nat} {items} {x : Value} {Q : Value → Shared → Prop} (hit : s.heap.IsTupleIter it l i)
    (hl : s.heap.IsTuple l items) (hx : items[i]? = some x)
    (hQ : ∀ h', h'.IsTupleIter it l (i + 1) → Heap.SameBut it s.heap h' → Q x { s with heap := h' }) :
    wpAny (model prog w) A (Builtin.SmallTypes.nextOf (.ref it)) Q E s := by
  obtain ⟨o, ho, hc, hd⟩ := id hit
  obtain ⟨ol, hol, _, nl, hdl⟩ := hl
  unfold Builtin.SmallTypes.nextOf
  refine wpAny_bind (wpAny_callSpecial?_slot (name := Str.ofString "__next__") hit.typeIs F.slot_tuple_iterator_next
    (wpAny_call_entry F.slot_tuple_iterator_next hit.typeIs F.entry_tuple_iterator_next ?_ (F.args_tuple_iterator_next_1 _)))
  show wpAny _ _ (field (.ref it) 0 >>= _) _ _ s
  refine wpAny_bind (wpAny_field ho hd (x := .ref l) rfl ?_)
  show wpAny _ _ (if (Value.ref l == Value.none) = true then _ else _) _ _ s
  rw [if_neg (show ¬ ((Value.ref l == Value.none) = true) from Bool.false_ne_true)]
  show wpAny _ _ (field (.ref it) 1 >>= _) _ _ s
  refine wpAny_bind (wpAny_field ho hd (x := .int i 0) rfl ?_)
  show wpAny _ _ (seqItems? (.ref l) >>= _) _ _ s
  refine wpAny_bind (wpAny_seqItems hol hdl ?_)
  simp only [Int.toNat_natCast, hx]
  refine wpAny_bind (wpAny_setField ho hd (by simp) (wpAny_pure ⟨x, rfl, wpAny_pure (hQ _ ?_ (Heap.SameBut.update ..))⟩))
  exact ⟨_, Heap.get?_update_self _ ho (Obj.isFreed_of_fields (Obj.data_mapFields hd _)), (Obj.cls_mapFields ..).trans hc, by
    rw [Obj.data_mapFields hd]; simp [rawInt]⟩
theorem nextOf_tuple_end {it l : Addr} {i : Nat} {items} {Q : Value → Shared → Prop} (hh : A.handled = none)
    (hit : s.heap.IsTupleIter it l i) (hl : s.heap.IsTuple l items) (hx : items[i]? = none)
    (hE : ∀ h' e, Heap.ExtBut it s.heap h' → (∃ o, h'.get? e = some o ∧ o.cls = .type "StopIteration") → E (.ref e) { s with heap := h' }) :
    wpAny (model prog w) A (Builtin.SmallTypes.nextOf (.ref it)) Q E s := by
  obtain ⟨o, ho, hc, hd⟩ := id hit
  obtain ⟨ol, hol, _, nl, hdl⟩ := hl
  unfold Builtin.SmallTypes.nextOf
  refine wpAny_bind (wpAny_callSpecial?_slot (name := Str.ofString "__next__") hit.typeIs F.slot_tuple_iterator_next
    (wpAny_call_entry F.slot_tuple_iterator_next hit.typeIs F.entry_tuple_iterator_next ?_ (F.args_tuple_iterator_next_1 _)))
  show wpAny _ _ (field (.ref it) 0 >>= _) _ _ s
  refine wpAny_bind (wpAny_field ho hd (x := .ref l) rfl ?_)
  show wpAny _ _ (if (Value.ref l == Value.none) = true then _ else _) _ _ s
  rw [if_neg (show ¬ ((Value.ref l == Value.none) = true) from Bool.false_ne_true)]
  show wpAny _ _ (field (.ref it) 1 >>= _) _ _ s
  refine wpAny_bind (wpAny_field ho hd (x := .int i 0) rfl ?_)
  show wpAny _ _ (seqItems? (.ref l) >>= _) _ _ s
  refine wpAny_bind (wpAny_seqItems hol hdl ?_)
  simp only [Int.toNat_natCast, hx]
  refine wpAny_bind (wpAny_rule (wpAny_bind (wpAny_setField ho hd (by simp) ?_)))
  show wpAny _ _ (newExc (.type "StopIteration") [] >>= _) _ _ _
  refine wpAny_bind ?_
  simp only [newExc, newTuple]
  refine wpAny_bind (wpAny_newObj_type ?_ (by size_fits))
  refine wpAny_bind (m := firstArgMember _ _) (wpAny_of_eq (a := Value.none) (by first | rfl | (simp only [firstArgMember]; rfl)) ?_)
  refine wpAny_newObj_type ?_ (by size_fits)
  simp only [raiseNew]
  refine wpAny_bind (wpAny_handled ?_)
  first | rw [show A.in1.handled = none from hh] | rw [hh]
  refine wpAny_bind (wpAny_pure (wpAny_throw ?_))
  exact hE _ _ (((Heap.SameBut.update ..).extBut.push _).push _) ⟨_, Heap.get?_push_size _ rfl, rfl⟩
theorem nextOf_item {t : Bool} {it l : Addr} {i : Nat} {items : Array Value} {x : Value} {Q : Value → Shared → Prop} (hit : IterAt t s.heap it l i)
    (hl : HasItems t s.heap l items) (hx : items[i]? = some x)
    (hQ : ∀ h', IterAt t h' it l (i + 1) → Heap.SameBut it s.heap h' → Q x { s with heap := h' }) :
    wpAny (model prog w) A (Builtin.SmallTypes.nextOf (.ref it)) Q E s := by
  cases t
  · exact wpAny_nextOf_list_item hit hl hx hQ
  · exact nextOf_tuple_item hit hl hx hQ
theorem nextOf_end {t : Bool} {it l : Addr} {i : Nat} {items : Array Value} {Q : Value → Shared → Prop} (hh : A.handled = none)
    (hit : IterAt t s.heap it l i) (hl : HasItems t s.heap l items) (hx : items[i]? = none)
    (hE : ∀ h' e, Heap.ExtBut it s.heap h' → (∃ o, h'.get? e = some o ∧ o.cls = .type "StopIteration") → E (.ref e) { s with heap := h' }) :
    wpAny (model prog w) A (Builtin.SmallTypes.nextOf (.ref it)) Q E s := by
  cases t
  · exact wpAny_nextOf_list_end hh hit hl hx hE
  · exact nextOf_tuple_end hh hit hl hx hE
/-- the iterator that comes -/
noncomputable def iterObj (t : Bool) (l : Addr) : Obj := if t = true then { cls := .type "tuple_iterator", data := .fields #[.ref l, .int 0 0] } else { cls := .type "list_iterator", data := .fields #[.ref l, .int 0 0] }
theorem pyIter_seq {t : Bool} {l : Addr} {items : Array Value} {Q : Value → Shared → Prop} (hl : HasItems t s.heap l items)
    (hQ : Q (.ref s.heap.objs.size) { s with heap := s.heap.push (iterObj t l) }) : wpAny (model prog w) A (pyIter (.ref l)) Q E s := by
  cases t
  · exact wpAny_pyIter_list hl hQ
  · exact wpAny_pyIter_tuple hl hQ
theorem iterObj_at {t : Bool} {h : Heap} {it l : Addr} (e : h.get? it = some (iterObj t l)) : IterAt t h it l 0 := by
  cases t
  · exact ⟨_, e, rfl, rfl⟩
  · exact ⟨_, e, rfl, rfl⟩
theorem iterObj_free (t : Bool) (l : Addr) : (iterObj t l).isFreed = false := by cases t <;> rfl

end

section
variable {prog : Program} {w : World} {A : Around} {E : Value → Shared → Prop} {s : Shared}
end

/-! ### the layer's own: a list or a tuple by a flag -/
noncomputable def SqK (K : PySem.W.Frag) (t : Bool) (H : Hp) (a : Addr) (xs : List V) : Prop := if t = true then SqT K H a xs else SqL K H a xs
section
variable {X : Cx} {pins : List (Addr × Obj)} {σ : St} {H : Hp} {s : Shared}
theorem Inv.seqK {t : Bool} {a : Addr} {xs : List V} (I : Inv X pins σ H s) (h : SqK X.K t H a xs) : ∃ its : List Value, Vals xs its ∧ HasItems t s.heap a its.toArray ∧ xs.length ≤ sizeLine := by
  cases t
  · obtain ⟨its, r, p, z⟩ := I.list h
    exact ⟨its, r, p.isList, z⟩
  · obtain ⟨its, r, p, z⟩ := I.tuple h
    exact ⟨its, r, p, z⟩
theorem Inv.seqK_inj {t : Bool} {a : Addr} {xs ys : List V} (I : Inv X pins σ H s) (h : SqK X.K t H a xs) (h' : SqK X.K t H a ys) : xs = ys := by
  cases t
  · exact I.list_inj h h'
  · exact I.tuple_inj h h'
/-- several records of ours have turned -/
theorem Inv.turnedL {t' : Nat} {its : List Addr} {h' : Heap} (I : Inv X pins σ H s) (k : ∀ b o, b ∉ its → s.heap.get? b = some o → h'.get? b = some o) (hf : ∀ b ∈ its, FpOk X pins H b) : Inv X pins σ H { s with heap := h', toks := t' } := by
  have nit : ∀ b u, H b = some u → b ∉ its := fun b u e z => by rw [(hf b z).1] at e; cases e
  refine I.step (g' := s.gens) (d' := s.drawn) (ch := its) (fun b hb => ?_) (fun b o _ _ hc e _ => k b o hc e) (fun b o _ _ hc e _ => ⟨o.slots, k b o hc e⟩) (fun _ _ _ _ n => n)
    (fun b o hc e => ⟨o, k b o hc e⟩) (fun _ _ e => e) (fun _ _ _ e => e) (fun b ps e => ⟨#[], by rw [e]; simp⟩) (fun m hm => ?_) (fun b u e => ?_) I.bare
  · obtain ⟨f0, f1, f2, f3, f4, f5⟩ := hf b hb
    exact ⟨f3, f1, f4, f5⟩
  · obtain ⟨o, es, ep, ho, r⟩ := hm
    exact ⟨o, es, ep, k _ o (fun z => (hf _ z).2.1 rfl) ho, r⟩
  · refine (I.hok b u e).stay (fun c v hc q => k c v ?_ q) (fun _ q => q) fun _ _ q => q
    rcases hc with z | z
    · rw [z]; exact nit b u e
    · exact nit c _ z
end

section
variable {X : Cx}
end
end L2

namespace L2
open PySem PySem.Spec PyProof.Rows

theorem walksK {prog : Program} {w : World} {A : Around} (hh : A.handled = none) (t : Bool) (I ax : Addr) (hne : ax ≠ I) (items : Array Value) :
    Walks prog w A I [I, ax] [I] items.size (fun i v => items[i]? = some v) (fun i h => IterAt t h I ax i ∧ HasItems t h ax items) := by
  cases t
  · exact Walks.list hh I ax hne items
  · exact Walks.tuple hh I ax hne items

theorem getD_at {α : Type} (l : List α) (d : α) {n : Nat} (h : n < l.length) : l.getD n d = l[n] := by simp [List.getD, h]
theorem preSum_list (ns : List Int) : preSum (fun j => ns.getD j 0) ns.length = ns.sum := by
  have key : ∀ (k : Nat), k ≤ ns.length → preSum (fun j => ns.getD j 0) k = (ns.take k).sum := by
    intro k
    induction k with
    | zero => intro _; rfl
    | succ k ih =>
      intro hk
      show preSum _ k + ns.getD k 0 = _
      have hlt : k < ns.length := by omega
      rw [ih (by omega), List.take_succ, List.sum_append, getD_at _ _ hlt, List.getElem?_eq_getElem hlt]
      simp
  rw [key ns.length (Nat.le_refl _), List.take_length]

section
variable {X : Cx} {pins : List (Addr × Obj)} {σ : St} {H : Hp} {s : Shared}
/-- behind a walk of a new iterator -/
theorem Inv.movedNew {s' : Shared} (I : Inv X pins σ H s) {o : Obj} (m : Moved [s.heap.objs.size] (fun a b => b = a) { s with heap := s.heap.push o } s') : Inv X pins σ H s' := by
  obtain ⟨m1, m2, m3, m4, m5⟩ := m
  obtain ⟨h', g', d', t', o'⟩ := s'
  have e1 : g' = s.gens := m2
  have e2 : d' = s.drawn := m3
  have e3 : o' = s.os := m4
  subst e1 e2 e3
  refine I.kept (t' := t') fun b u e => m1 b u (fun z => ?_) (Heap.get?_push_of_some _ e)
  have : b = s.heap.objs.size := by simpa using z
  exact absurd (Heap.lt_size e) (by rw [this]; exact Nat.lt_irrefl _)
theorem ints_get {ns : List Int} {its : List Value} (r : Vals (ns.map V.int) its) : ∀ (i : Nat) (v : Value), its.toArray[i]? = some v → ∃ t, v = Value.int (ns.getD i 0) t := fun i v e => by
  have e' : its[i]? = some v := by simpa using e
  have hi : i < its.length := (List.getElem?_eq_some_iff.mp e').1
  have hl := r.length
  rw [List.length_map] at hl
  have hn : (ns.map V.int)[i]? = some (V.int (ns.getD i 0)) := by
    have : i < ns.length := by omega
    simp [List.getD, this]
  obtain ⟨u, hu, t, ru⟩ := r.get hn
  rw [e'] at hu
  cases hu
  exact ⟨t, ru⟩
theorem bools_get {bs : List Bool} {its : List Value} (r : Vals (bs.map V.bl) its) : ∀ (i : Nat) (v : Value), its.toArray[i]? = some v → v = Value.bool (bs.getD i false) := fun i v e => by
  have e' : its[i]? = some v := by simpa using e
  have hi : i < its.length := (List.getElem?_eq_some_iff.mp e').1
  have hl := r.length
  rw [List.length_map] at hl
  have hn : (bs.map V.bl)[i]? = some (V.bl (bs.getD i false)) := by
    have : i < bs.length := by omega
    simp [List.getD, this]
  obtain ⟨u, hu, ru⟩ := r.get hn
  rw [e'] at hu
  cases hu
  exact ru
theorem iterObj_walk {t : Bool} {l : Addr} {items : Array Value} (hl : HasItems t s.heap l items) : l ≠ s.heap.objs.size ∧
    (IterAt t (s.heap.push (iterObj t l)) s.heap.objs.size l 0 ∧ HasItems t (s.heap.push (iterObj t l)) l items) ∧ ∀ b ∈ [s.heap.objs.size, l], b < (s.heap.push (iterObj t l)).objs.size := by
  obtain ⟨o, e⟩ := hl.there
  have hlt := Heap.lt_size e
  refine ⟨Nat.ne_of_lt hlt, ⟨iterObj_at (Heap.get?_push_size _ (iterObj_free _ _)), hl.at fun o e => Heap.get?_push_of_some _ e⟩, fun b hb => ?_⟩
  rw [Heap.size_push]
  simp at hb
  rcases hb with rfl | rfl
  · exact Nat.lt_succ_self _
  · exact Nat.lt_succ_of_lt hlt
end

section
variable {X : Cx}
/-- sum of ints -/
theorem call_sum (t : Bool) (hc : X.calm = true) : CallR X (.builtin "sum") (fun xs H Q => ∃ (a : Addr) (ns : List Int), xs = [.ref a] ∧ SqK X.K t H a (ns.map V.int) ∧ Q (.int ns.sum) H) := by
  intro pins s σ H xs us Q I r h
  obtain ⟨a, ns, rfl, hq, q⟩ := h
  obtain ⟨u, rfl, r1⟩ := vals1 r
  cases r1
  obtain ⟨its, rv, p, _⟩ := I.seqK hq
  obtain ⟨w1, w2, w3⟩ := iterObj_walk p
  have hl := rv.length
  rw [List.length_map] at hl
  refine call_sum_walkAnyS (pyIter_seq p ⟨_, _, _, _, _, _, _, fun j => ns.getD j 0, rfl, (walksK (A := X.A.in1) (I.ok.hd hc) t _ a w1 its.toArray).toS, w2, w3, ints_get rv, fun s' t' m => ?_⟩)
  refine ⟨.int ns.sum, H, I.movedNew m, ⟨t', ?_⟩, q⟩
  rw [List.size_toArray, ← hl, preSum_list]
theorem range_all (bs : List Bool) : (List.range bs.length).all (fun i => bs.getD i false) = bs.all id := by
  induction bs with
  | nil => rfl
  | cons b r ih =>
    rw [List.length_cons, List.range_succ_eq_map, List.all_cons, List.all_map, List.all_cons, ← ih]
    rfl
theorem call_all (t : Bool) (hc : X.calm = true) : CallR X (.builtin "all") (fun xs H Q => ∃ (a : Addr) (bs : List Bool), xs = [.ref a] ∧ SqK X.K t H a (bs.map V.bl) ∧ Q (.bl (bs.all id)) H) := by
  intro pins s σ H xs us Q I r h
  obtain ⟨a, bs, rfl, hq, q⟩ := h
  obtain ⟨u, rfl, r1⟩ := vals1 r
  cases r1
  obtain ⟨its, rv, p, _⟩ := I.seqK hq
  obtain ⟨w1, w2, w3⟩ := iterObj_walk p
  have hl := rv.length
  rw [List.length_map] at hl
  refine call_all_walkS (pyIter_seq p ⟨_, _, _, _, _, _, _, fun j => bs.getD j false, rfl, (walksK (A := X.A.in1) (I.ok.hd hc) t _ a w1 its.toArray).toS, w2, fun i v s' Q' E' hv hQ => ?_, fun s' m => ?_⟩)
  · rw [bools_get rv i v hv]
    exact wpAny_truthy_bool hQ
  · refine ⟨.bl (bs.all id), H, I.movedNew m, ?_, q⟩
    show Value.bool _ = _
    rw [List.size_toArray, ← hl, range_all]
end

/-! ### enumerate -/
theorem drawsK {prog : Program} {w : World} {A : Around} (hh : A.handled = none) (t : Bool) (it l : Addr) (hne : l ≠ it) (items : Array Value) :
    Draws prog w A it [it, l] items.size (fun i v => items[i]? = some v) (fun i h => IterAt t h it l i ∧ HasItems t h l items) where
  live := fun _ _ st => let ⟨o, e, _⟩ := st.1.there; ⟨o, e⟩
  frame := fun _ _ _ st hk => ⟨st.1.at fun o e => hk it (by simp) o e, st.2.at fun o e => hk l (by simp) o e⟩
  item := fun i s Q E hi st hQ => by
    refine nextOf_item st.1 st.2 (x := items[i]) (by simp [hi]) fun h' hit' hs' => ?_
    exact hQ _ h' s.toks (by simp [hi]) ⟨hit', st.2.at fun o e => hs'.extBut _ _ hne e⟩ hs'
  done := fun s Q E st hE => nextOf_end hh st.1 st.2 (by simp) hE
theorem meets_enumT (l : Addr) (items : Array Value) (n : Nat) (dct : Option Addr) (sl : Array (Option Value)) :
    Meets (Builtin.«enumerate.__new__» ⟨[.type "enumerate", .ref l], []⟩) (fun _ R s => s.heap.get? l = some { cls := .type "tuple", dict := dct, data := .seq items n, slots := sl } ∧
      R (.ok (.ret (.ref (s.heap.push { cls := .type "tuple_iterator", data := .fields #[.ref l, .int 0 0] }).objs.size)))
        { s with heap := (s.heap.push { cls := .type "tuple_iterator", data := .fields #[.ref l, .int 0 0] }).push { cls := .type "enumerate", data := .fields #[.none, .bool false, .ref s.heap.objs.size, rawInt 0, .none, .none] } }) :=
  .of_wp fun prog w A R s h => by
    obtain ⟨hp, g, d, tk, os⟩ := s; obtain ⟨hl, h⟩ := h
    have hsub := sub_enumerate
    have hL : Heap.IsTuple (Shared.heap ⟨hp, g, d, tk, os⟩) l items := ⟨_, hl, rfl, n, rfl⟩
    wp_walk using AutoSeq1.wpAny_loadPart' hl
    refine wpAny_stack_any fun st => wpAny_pure ?_
    split
    · rename_i c _ _ _ _ _
      cases (c == Value.type "enumerate")
      · wp_walk using AutoSeq1.wpAny_loadPart' hl, wpAny_pyIter_tuple hL
        exact ⟨_, rfl, h⟩
      · wp_walk using AutoSeq1.wpAny_loadPart' hl, wpAny_pyIter_tuple hL
        exact ⟨_, rfl, h⟩
    · wp_walk using AutoSeq1.wpAny_loadPart' hl, wpAny_pyIter_tuple hL
      exact ⟨_, rfl, h⟩
section
variable {prog : Program} {w : World} {A : Around} {E : Value → Shared → Prop} {s : Shared}
theorem call_enumT {l : Addr} {items : Array Value} {Q : Value → Shared → Prop} (hL : s.heap.IsTuple l items)
    (h : ∀ h', IsEnum h' (s.heap.objs.size + 1) s.heap.objs.size 0 .none → h'.IsTupleIter s.heap.objs.size l 0 → h'.objs.size = s.heap.objs.size + 2 →
      (∀ b o, s.heap.get? b = some o → h'.get? b = some o) → Q (.ref (s.heap.objs.size + 1)) { s with heap := h' }) :
    wpAny (model prog w) A (call (.type "enumerate") [.ref l]) Q E s := by
  obtain ⟨⟨c, dct, dt, sl⟩, hl, hc, n, hd⟩ := hL
  replace hc : c = .type "tuple" := hc
  replace hd : dt = .seq items n := hd
  subst hc hd
  refine callType_new F.called_enumerate (by decide) (F.typeCall_enumerate_1 _) (F.newCall_enumerate_1 _) (fun obj => F.args_object_init_2 obj _) F.entry_enumerate_new
    (meets_enumT l items n dct sl) ⟨hl, ?_⟩
  have hz : (s.heap.push { cls := .type "tuple_iterator", data := .fields #[.ref l, .int 0 0] }).objs.size = s.heap.objs.size + 1 := Heap.size_push ..
  show _ ∧ _
  rw [hz]
  have he : IsEnum ((s.heap.push { cls := .type "tuple_iterator", data := .fields #[.ref l, .int 0 0] }).push
      { cls := .type "enumerate", data := .fields #[.none, .bool false, .ref s.heap.objs.size, rawInt 0, .none, .none] }) (s.heap.objs.size + 1) s.heap.objs.size 0 .none := by
    have := Heap.get?_push_size (s.heap.push { cls := .type "tuple_iterator", data := .fields #[.ref l, .int 0 0] })
      (o := { cls := .type "enumerate", data := .fields #[.none, .bool false, .ref s.heap.objs.size, rawInt 0, .none, .none] }) rfl
    rw [hz] at this; exact this
  refine ⟨⟨_, he, rfl⟩, h _ he ⟨_, Heap.get?_push_of_some _ (Heap.get?_push_size _ rfl), rfl, rfl⟩ (by rw [Heap.size_push, hz]) fun b o x => Heap.get?_push_of_some _ (Heap.get?_push_of_some _ x)⟩
theorem call_enumG {t : Bool} {l : Addr} {items : Array Value} {Q : Value → Shared → Prop} (hL : HasItems t s.heap l items)
    (h : ∀ h', IsEnum h' (s.heap.objs.size + 1) s.heap.objs.size 0 .none → IterAt t h' s.heap.objs.size l 0 → h'.objs.size = s.heap.objs.size + 2 →
      (∀ b o, s.heap.get? b = some o → h'.get? b = some o) → Q (.ref (s.heap.objs.size + 1)) { s with heap := h' }) :
    wpAny (model prog w) A (call (.type "enumerate") [.ref l]) Q E s := by
  cases t
  · exact call_enumerate_list hL h
  · exact call_enumT hL h
end
/-- enumerate of the sequence at a -/
noncomputable def Ite (K : PySem.W.Frag) (t : Bool) (a : Addr) : It :=
  ⟨fun i H => ∃ xs x, SqK K t H a xs ∧ xs[i]? = some x,
   fun i H v H' => ∃ p x, H p = none ∧ v = .ref p ∧ H' = upd H p (.tup [.int i, x]) ∧ ∀ xs, SqK K t H a xs → xs[i]? = some x,
   fun i H => ∃ xs, SqK K t H a xs ∧ xs.length ≤ i⟩
/-- a new tuple of the two is there, untracked as yet: it is tracked -/
theorem Inv.tracks {X : Cx} {pins : List (Addr × Obj)} {σ : St} {H : Hp} {s s1 : Shared} {p : Addr} {xs : List V} {its : List Value} (I : Inv X pins σ H s) (I1 : Inv X pins σ H s1) (hp : s.heap.objs.size ≤ p) (hn : H p = none) (rv : Vals xs its) (hz : xs.length ≤ sizeLine)
    (ht : IsTup s1.heap p its.toArray) : Inv X pins σ (upd H p (.tup xs)) s1 := by
  refine ⟨I1.ok, I1.os, I1.bare, ?_, I1.loc, I1.cell, ?_, ?_, ?_, ?_, I1.len⟩
  · have u0 := I1.base
    have old : ∀ c o, X.s₀.heap.get? c = some o → c ≠ p := fun c o e => Nat.ne_of_lt (Nat.lt_of_lt_of_le (Heap.lt_size e) (Nat.le_trans I.sz hp))
    exact ⟨u0.keep, u0.slot, fun c o e n hx => by rw [upd_ne (old c o e)]; exact u0.free c o e n hx, u0.there,
      fun c ts e => by have := u0.tups c ts e; rw [upd_ne (ne_of_none this hn)]; exact this,
      fun c o ts e => by have := u0.frzs c o ts e; rw [upd_ne (ne_of_none this hn)]; exact this,
      fun c ps e => by obtain ⟨more, q⟩ := u0.tbls c ps e; exact ⟨more, by rw [upd_ne (ne_of_none q hn)]; exact q⟩⟩
  · rw [upd_ne (Nat.ne_of_lt (Nat.lt_of_lt_of_le I.lt hp))]; exact I.free
  · intro x' c e
    obtain ⟨v', q⟩ := I.cell x' c e
    rw [upd_ne (Nat.ne_of_lt (Nat.lt_of_lt_of_le q.lt hp))]; exact I.freeC x' c e
  · intro p' hp'
    obtain ⟨e, n, ne, nf, d⟩ := I1.pin p' hp'
    have e0 := (I.pin p' hp').1
    exact ⟨e, by rw [upd_ne (Nat.ne_of_lt (Nat.lt_of_lt_of_le (Heap.lt_size e0) hp))]; exact n, ne, nf, d⟩
  · intro c o q
    by_cases hcs : c = p
    · subst hcs
      rw [upd_same] at q; cases q
      exact ⟨hz, its, rv, ht⟩
    · rw [upd_ne hcs] at q
      exact (I1.hok c o q).stay (fun _ _ _ r => r) (fun c' r => by rw [upd_ne (ne_of_none r hn)]; exact r) fun c' ts r => by rw [upd_ne (ne_of_none r hn)]; exact r
noncomputable def enumSt (t : Bool) (e it a : Addr) (i : Nat) (h : Heap) : Prop := (∃ old, IsEnum h e it i old) ∧ IterAt t h it a i
theorem turn_enum {P : Program} {w : World} {K : PySem.W.Frag} {elts : List Expr} {k : Nat} {pos : Pos} {t : Bool} {e it a : Addr} (hei : e ≠ it) (hae : a ≠ e) (hai : a ≠ it) :
    Turn P w K (.Tuple elts k pos) (Ite K t a) [e, it] e (enumSt t e it a) where
  mem := by simp
  obj := fun i h st c hc => by
    obtain ⟨⟨old, he⟩, h1⟩ := st
    simp at hc
    rcases hc with rfl | rfl
    · exact ⟨_, he, fun v q => by cases q⟩
    · exact h1.there
  keep := fun i h h' st kk => by
    obtain ⟨⟨old, he⟩, h1⟩ := st
    exact ⟨⟨old, kk e (by simp) _ he⟩, h1.at fun o q => kk it (by simp) o q⟩
  item := by
    intro X hP hw hK hc i pins s σ H E I hf st hg
    subst hP hw hK
    obtain ⟨xs, x, hq1, hx⟩ := hg
    obtain ⟨⟨old, he⟩, h1⟩ := st
    obtain ⟨its, rv, p, _⟩ := I.seqK hq1
    obtain ⟨ux, hux, rux⟩ := rv.get hx
    have hlt : i < its.toArray.size := by rw [List.size_toArray]; exact (List.getElem?_eq_some_iff.mp hux).1
    refine wpAny_pyNext_enum_itemD (drawsK (A := X.A.in1) (I.ok.hd hc) t it a hai its.toArray) he ⟨h1, p⟩ hlt hei (by simp; exact ⟨hei, fun z => hae z.symm⟩) fun x' h' tk hx' ho hs' hT hsz hk => ⟨_, rfl, ?_⟩
    have : x' = ux := by
      have e1 : its[i]? = some x' := by simpa using hx'
      rw [hux] at e1; exact (Option.some.inj e1).symm
    subst this
    refine wpAny_letOwnedTupleGo_enum (s := { s with heap := h', toks := tk + 1 }) ho fun h'' he' hs'' => ?_
    have elt : e < s.heap.objs.size := Heap.lt_size he
    have ilt : it < s.heap.objs.size := by obtain ⟨o, q, _⟩ := h1.there; exact Heap.lt_size q
    have hfr : H s.heap.objs.size = none := I.fresh
    have I1 : Inv X pins σ H { s with heap := h'', toks := tk + 1 } := I.turnedL (its := [e, it]) (fun c o hc' q => (hs''.2 c (fun z => hc' (by simp [z]))).trans (hk c o (fun z => hc' (by simp [z])) (fun z => hc' (by simp [z])) q)) fun c hc' => hf c hc'
    have tupAt : h''.get? s.heap.objs.size = some { cls := .type "tuple", data := .seq #[.int i tk, x'] } := (hs''.2 _ (Nat.ne_of_gt elt)).trans hT
    have I2 := I.tracks (xs := [.int i, x]) (its := [.int i tk, x']) I1 (Nat.le_refl _) hfr (.cons ⟨tk, rfl⟩ (.cons rux .nil)) (by simp only [List.length_cons, List.length_nil]; rw [sizeLine_eq]; decide) ⟨_, tupAt, rfl, 0, rfl⟩
    refine ⟨.ref s.heap.objs.size, _, I2, rfl, ⟨s.heap.objs.size, x, hfr, rfl, rfl, fun xs' q1 => ?_⟩, ?_, fun c hc' => ?_⟩
    · rw [I.seqK_inj q1 hq1]; exact hx
    · exact ⟨⟨x', by simpa using he'⟩, hs'.1.at fun o q => hs''.extBut _ _ (Ne.symm hei) q⟩
    · have := (hf c hc').1
      have clt : c < s.heap.objs.size := by simp at hc'; rcases hc' with rfl | rfl <;> assumption
      rw [upd_ne (Nat.ne_of_lt clt)]; exact this
  done := by
    intro X hP hw hK hc i pins s σ H E I hf st hg
    subst hP hw hK
    obtain ⟨xs, hq1, hend⟩ := hg
    obtain ⟨⟨old, he⟩, h1⟩ := st
    obtain ⟨its, rv, p, _⟩ := I.seqK hq1
    have hl := rv.length
    have hT : s.TypeIs (.ref e) "enumerate" := ⟨_, he, rfl⟩
    unfold pyNext
    refine wpAny_bind (wpAny_attempt (wpAny_callSpecial?_slot (name := Str.ofString "__next__") hT F.slot_enumerate_next
      (wpAny_call_entry F.slot_enumerate_next hT F.entry_enumerate_next ?_ (F.args_enumerate_next_1 _))))
    show wpAny _ _ (field (.ref e) 2 >>= _) _ _ _
    refine wpAny_bind (wpAny_field he rfl (x := .ref it) rfl ?_)
    refine wpAny_bind (nextOf_end (I.ok.hd hc) h1 p (by simp; omega) fun h' x he' hx' => ?_)
    obtain ⟨o, ho, hc'⟩ := hx'
    refine wpAny_bind (wpAny_isInstance (T := "StopIteration") (b := true) ⟨o, ho, hc'⟩ isSubtype_stop ?_)
    exact wpAny_pure ⟨rfl, I.turnedL (t' := s.toks) (its := [it]) (fun c o hc2 q => he' c o (fun z => hc2 (by simp [z])) q) fun c hc2 => hf c (by simp at hc2; simp [hc2])⟩
  self := fun _ _ _ _ _ st h => by
    obtain ⟨⟨old, he⟩, _⟩ := st
    exact wpAny_pyIter_enum he h
section
variable {X : Cx}
noncomputable def iEnum (K : PySem.W.Frag) (t : Bool) (ta : TA) : TI := fun σ H R => ta σ H fun vs H1 => ∃ a xs, vs = [.ref a] ∧ SqK K t H1 a xs ∧ R (Ite K t a) H1
theorem boot_enumerate : bootBuiltins "enumerate" = some (.type "enumerate") := by decide +kernel
theorem pi_enum (t : Bool) {a : Expr} {ta : TA} {p pos : Pos} {elts : List Expr} {k : Nat} {tp : Pos} (hg : Gl X "enumerate") (hm : X.mg "enumerate" = none) (ha : PA X [a] ta) (hs : starEach [a] X.env = [(false, eval a X.env)] := by rfl) :
    PI X (.Tuple elts k tp) (.Call (.Name "enumerate" p) [a] [] pos) (iEnum X.K t ta) := by
  intro pins s σ H R I h
  refine Call_ (ld_blt I hg hm boot_enumerate (PyProof.Rows.callWith_type1 (thn (ha pos pins s σ H _ I h) fun us s1 ⟨vs, H1, I1, r1, q1⟩ => ?_) hs rfl))
  obtain ⟨a', xs, e, q1, q⟩ := q1
  subst e
  obtain ⟨u, rfl, r⟩ := vals1 r1
  cases r
  obtain ⟨its, rv, p1, _⟩ := I1.seqK q1
  refine call_enumG p1 fun h' z1 z2 z3 z4 => ?_
  refine wpAny_pyIter_enum (s := { s1 with heap := h' }) z1 ?_
  have lta : a' < s1.heap.objs.size := by obtain ⟨o, e⟩ := p1.there; exact Heap.lt_size e
  refine ⟨_, [s1.heap.objs.size + 1, s1.heap.objs.size], _, _, H1, rfl, I1.kept (t' := s1.toks) z4, turn_enum (t := t) (Nat.ne_of_gt (Nat.lt_succ_self _)) (Nat.ne_of_lt (Nat.lt_succ_of_lt lta)) (Nat.ne_of_lt lta), ⟨⟨_, z1⟩, z2⟩, fun c hc => ?_, q⟩
  have hc' : s1.heap.objs.size ≤ c := by simp at hc; unfold Addr at *; omega
  exact I1.fpOk hc' (I1.hok.fresh hc')
end
end L2

namespace L2
open PySem PySem.Spec PyProof.Rows

/-! ### heaps: what stays of tuples -/
noncomputable def TSame (H H' : Hp) : Prop := ∀ b xs, H b = some (.tup xs) → H' b = some (.tup xs)
theorem Same.t {H H' : Hp} (h : Same H H') : TSame H H' := fun b xs e => h b _ e
theorem TSame.refl (H : Hp) : TSame H H := fun _ _ e => e
theorem TSame.trans {H H1 H2 : Hp} (a : TSame H H1) (b : TSame H1 H2) : TSame H H2 := fun c xs e => b c xs (a c xs e)
theorem same_new {H : Hp} {a : Addr} {o : HO} (h : H a = none) : Same H (upd H a o) := fun b u e => by rw [upd_ne (ne_of_none e h)]; exact e
theorem Same.upd {H H' : Hp} {a : Addr} {o : HO} (s : Same H H') (h : H a = none) : Same H (upd H' a o) := fun b u e => by rw [upd_ne (ne_of_none e h)]; exact s b u e
theorem tsame_lst {H : Hp} {a : Addr} {xs ys : List V} (h : H a = some (.lst xs)) : TSame H (upd H a (.lst ys)) := fun b zs e => by
  rw [upd_ne (ne_of e h (by intro z; cases z))]; exact e

/-! ### comprehensions, by what holds of the i-th element -/
section
variable {K : PySem.W.Frag} {cap : List (Option Nat)} {te : TE} {σ : St} {H1 : Hp} {Q : VK}
theorem get_snoc {α : Type} {ys : List α} {y z : α} {j : Nat} (h : (ys ++ [y])[j]? = some z) : (j < ys.length ∧ ys[j]? = some z) ∨ (j = ys.length ∧ z = y) := by
  by_cases hj : j < ys.length
  · rw [List.getElem?_append_left hj] at h
    exact .inl ⟨hj, h⟩
  · rw [List.getElem?_append_right (by omega)] at h
    have hj' : j - ys.length = 0 := by
      have := (List.getElem?_eq_some_iff.mp h).1
      simp at this; omega
    rw [hj'] at h
    simp at h
    exact .inr ⟨by omega, h.symm⟩
/-- one turn for a Name in slot 0: the general form -/
theorem comp_gen {J : It} {g : TG} (n : Nat) (hn : n ≤ sizeLine) (S : St → Prop) (hS : S (capOf cap σ)) (F : Nat → V → Hp → Prop) (mono : ∀ i y H H', TSame H H' → F i y H → F i y H')
    (stop : ∀ H', Same H1 H' → J.stop n H') (go : ∀ i H', i < n → Same H1 H' → J.go i H')
    (step : ∀ i σ' H' x H2 (R : V → St → Hp → Prop), i < n → S σ' → Same H1 H' → J.yld i H' x H2 → (∀ y σ3 H3, S σ3 → Same H' H3 → F i y H3 → R y σ3 H3) → g x σ' H2 fun σ3 H3 => te σ3 H3 fun y H4 => R y σ3 H4)
    (fin : ∀ acc ys H', Same H1 H' → H1 acc = none → H' acc = some (.lst ys) → ys.length = n → (∀ i y, ys[i]? = some y → F i y H') → Q (.ref acc) H') : compBody J cap g te σ H1 Q := by
  intro acc hacc
  refine ⟨fun i m ys σ' H' => m = n - i ∧ i ≤ n ∧ ys.length = i ∧ S σ' ∧ Same H1 H' ∧ H' acc = some (.lst ys) ∧ ∀ j y, ys[j]? = some y → F j y H', ⟨n, by simp, Nat.zero_le _, rfl, hS, same_new hacc, upd_same, fun j y e => (by simp at e)⟩, ?_⟩
  rintro i m ys σ' H' ⟨rfl, hi, hl, hs, hsm, ha, hF⟩
  refine ⟨ha, ?_⟩
  by_cases hlt : i < n
  · refine .inr ⟨go i H' hlt hsm, by omega, fun x H2 y2 => step i σ' H' x H2 _ hlt hs hsm y2 fun y σ3 H3 s3 sm3 f3 => ⟨sm3 _ _ ha, n - (i + 1), by omega, rfl, hlt, by simp [hl], s3, (hsm.trans sm3).upd hacc, upd_same, fun j z e => ?_⟩⟩
    have ht : TSame H3 (upd H3 acc (.lst (ys ++ [y]))) := tsame_lst (sm3 _ _ ha)
    rcases get_snoc e with ⟨_, e⟩ | ⟨rfl, rfl⟩
    · exact mono j z _ _ ((sm3.t).trans ht) (hF j z e)
    · exact mono _ _ _ _ ht (hl ▸ f3)
  · have e : i = n := by omega
    subst e
    exact .inl ⟨stop H' hsm, fin acc ys H' hsm hacc ha hl hF⟩
/-- over a tuple, the target in slot 0 -/
theorem comp_tup {a : Addr} {xs : List V} (caps : St) (hc : capOf cap σ = none :: caps) (hx : H1 a = some (.tup xs)) (hn : xs.length ≤ sizeLine) (F : Nat → V → Hp → Prop) (mono : ∀ i y H H', TSame H H' → F i y H → F i y H')
    (step : ∀ i x H' (R : VK), xs[i]? = some x → Same H1 H' → (∀ y H3, Same H' H3 → F i y H3 → R y H3) → te (some x :: caps) H' R)
    (fin : ∀ acc ys H', Same H1 H' → H1 acc = none → H' acc = some (.lst ys) → ys.length = xs.length → (∀ i y, ys[i]? = some y → F i y H') → Q (.ref acc) H') : compBody (Itt K a) cap (gName 0) te σ H1 Q := by
  refine comp_gen xs.length hn (fun σ' => ∃ v, σ' = v :: caps) ⟨none, hc⟩ F mono (fun H' s => ⟨xs, SqT.of (s _ _ hx), Nat.le_refl _⟩) (fun i H' hi s => ⟨xs, xs[i], SqT.of (s _ _ hx), by simp [hi]⟩) ?_ fin
  rintro i σ' H' x H2 R hi ⟨v, rfl⟩ s ⟨rfl, hy⟩ k
  exact step i x H2 _ (hy xs (SqT.of (s _ _ hx))) s fun y H3 s3 f3 => k y _ H3 ⟨_, rfl⟩ s3 f3
theorem comp_lst {a : Addr} {xs : List V} (caps : St) (hc : capOf cap σ = none :: caps) (hx : SqL K H1 a xs) (hn : xs.length ≤ sizeLine) (F : Nat → V → Hp → Prop) (mono : ∀ i y H H', TSame H H' → F i y H → F i y H')
    (step : ∀ i x H' (R : VK), xs[i]? = some x → Same H1 H' → (∀ y H3, Same H' H3 → F i y H3 → R y H3) → te (some x :: caps) H' R)
    (fin : ∀ acc ys H', Same H1 H' → H1 acc = none → H' acc = some (.lst ys) → ys.length = xs.length → (∀ i y, ys[i]? = some y → F i y H') → Q (.ref acc) H') : compBody (Itl K a) cap (gName 0) te σ H1 Q := by
  refine comp_gen xs.length hn (fun σ' => ∃ v, σ' = v :: caps) ⟨none, hc⟩ F mono (fun H' s => ⟨xs, s.seq hx, Nat.le_refl _⟩) (fun i H' hi s => ⟨xs, xs[i], s.seq hx, by simp [hi]⟩) ?_ fin
  rintro i σ' H' x H2 R hi ⟨v, rfl⟩ s ⟨rfl, hy⟩ k
  exact step i x H2 _ (hy xs (s.seq hx)) s fun y H3 s3 f3 => k y _ H3 ⟨_, rfl⟩ s3 f3
theorem comp_range {lo : Int} {n : Nat} (caps : St) (hc : capOf cap σ = none :: caps) (hn : n ≤ sizeLine) (F : Nat → V → Hp → Prop) (mono : ∀ i y H H', TSame H H' → F i y H → F i y H')
    (step : ∀ (i : Nat) H' (R : VK), i < n → Same H1 H' → (∀ y H3, Same H' H3 → F i y H3 → R y H3) → te (some (.int (lo + i)) :: caps) H' R)
    (fin : ∀ acc ys H', Same H1 H' → H1 acc = none → H' acc = some (.lst ys) → ys.length = n → (∀ i y, ys[i]? = some y → F i y H') → Q (.ref acc) H') : compBody (Itr lo n) cap (gName 0) te σ H1 Q := by
  refine comp_gen n hn (fun σ' => ∃ v, σ' = v :: caps) ⟨none, hc⟩ F mono (fun H' s => Nat.le_refl _) (fun i H' hi s => hi) ?_ fin
  rintro i σ' H' x H2 R hi ⟨v, rfl⟩ s ⟨rfl, rfl⟩ k
  exact step i H2 _ hi s fun y H3 s3 f3 => k y _ H3 ⟨_, rfl⟩ s3 f3
/-- a pair's two targets in slots 0 and 1 -/
noncomputable abbrev g2 (K : PySem.W.Frag) : TG := gTup K 2 (gCons (gName 0) (gCons (gName 1) gNil))
theorem SqK.keeps {K : PySem.W.Frag} {t : Bool} {H H' : Hp} {a : Addr} {xs : List V} (s : Same H H') (h : SqK K t H a xs) : SqK K t H' a xs := by
  cases t
  · exact s.seq h
  · rcases (show SqT K H a xs from h) with (z | ⟨o, z⟩) | z
    · exact .inl (.inl (s _ _ z))
    · exact .inl (.inr ⟨o, s _ _ z⟩)
    · exact .inr z
theorem comp_enum {t : Bool} {a : Addr} {xs : List V} (caps : St) (hc : capOf cap σ = none :: none :: caps) (hx : SqK K t H1 a xs) (hn : xs.length ≤ sizeLine)
    (F : Nat → V → Hp → Prop) (mono : ∀ i y H H', TSame H H' → F i y H → F i y H')
    (step : ∀ (i : Nat) x H' (R : VK), xs[i]? = some x → Same H1 H' → (∀ z H3, Same H' H3 → F i z H3 → R z H3) → te (some (.int i) :: some x :: caps) H' R)
    (fin : ∀ acc zs H', Same H1 H' → H1 acc = none → H' acc = some (.lst zs) → zs.length = xs.length → (∀ i y, zs[i]? = some y → F i y H') → Q (.ref acc) H') : compBody (Ite K t a) cap (g2 K) te σ H1 Q := by
  refine comp_gen xs.length hn (fun σ' => ∃ v v', σ' = v :: v' :: caps) ⟨none, none, hc⟩ F mono (fun H' s => ⟨xs, hx.keeps s, Nat.le_refl _⟩) (fun i H' hi s => ⟨xs, xs[i], hx.keeps s, by simp [hi]⟩) ?_ fin
  rintro i σ' H' x H2 R hi ⟨v, v', rfl⟩ s ⟨p, x1, hp, rfl, rfl, hq⟩ k
  have e1 := hq xs (hx.keeps s)
  refine ⟨p, [.int i, x1], rfl, SqT.of upd_same, rfl, _, _, rfl, _, _, rfl, rfl, ?_⟩
  exact step i x1 _ _ e1 (s.trans (same_new hp)) fun y H3 s3 f3 => k y _ H3 ⟨_, _, rfl⟩ ((same_new hp).trans s3) f3
end
/-- elements that are a function of the place -/
theorem list_of {α : Type} {n : Nat} {ys : List V} {g : α → V} {f : Nat → α} (hl : ys.length = n) (h : ∀ (i : Nat) y, ys[i]? = some y → y = g (f i)) : ys = ((List.range n).map f).map g := by
  apply List.ext_getElem?
  intro i
  by_cases hi : i < n
  · have e : ys[i]? = some ys[i] := by simp [hl, hi]
    rw [e, h i _ e]
    simp [hi]
  · rw [List.getElem?_eq_none (by omega), List.getElem?_eq_none (by simp; omega)]

/-! ### isinstance -/
noncomputable def clsV : V → Option Value
  | .ty n => some (.type n)
  | .ref a => some (.ref a)
  | _ => none
theorem clsV_rel {c : V} {cv u : Value} (e : clsV c = some cv) (r : RelV c u) : u = cv := by
  cases c with
  | ty n => cases e; exact r
  | ref a => cases e; exact r
  | _ => cases e
section
variable {X : Cx}
theorem call_isinst : CallR X (.builtin "isinstance") (fun xs H Q => ∃ x c cv t b, xs = [x, c] ∧ clsV c = some cv ∧ TyOf X.K H x t ∧ PySem.W.kitOne X.K t cv = some b ∧ Q (.bl b) H) := by
  intro pins s σ H xs us Q I r h
  obtain ⟨x, c, cv, t, b, rfl, hc, ty, e, q⟩ := h
  obtain ⟨u, w', rfl, r1, r2⟩ := vals2 r
  rw [clsV_rel hc r2]
  exact isinst_ok I r1 ty e fun tk => ⟨.bl b, H, I.tok tk, rfl, q⟩
theorem boot_isinstance : bootBuiltins "isinstance" = some (.builtin "isinstance") := by decide +kernel
theorem boot_sum : bootBuiltins "sum" = some (.builtin "sum") := by decide +kernel
theorem boot_all : bootBuiltins "all" = some (.builtin "all") := by decide +kernel
theorem boot_max : bootBuiltins "max" = some (.builtin "max") := by decide +kernel
theorem boot_min : bootBuiltins "min" = some (.builtin "min") := by decide +kernel
theorem boot_tuple : bootBuiltins "tuple" = some (.type "tuple") := by decide +kernel
theorem boot_list : bootBuiltins "list" = some (.type "list") := by decide +kernel
theorem boot_int : bootBuiltins "int" = some (.type "int") := by decide +kernel
theorem boot_bool : bootBuiltins "bool" = some (.type "bool") := by decide +kernel
end

/-! ### the rules that name the fragment, with the fragment written out (for a block's element) -/
section
variable {X : Cx} (K : PySem.W.Frag)
theorem ix_tupK (h : X.K = K := by rfl) : IxR X (rIxT K) := h ▸ ix_tup
theorem call_tupleK (h : X.K = K := by rfl) : CallR X (.type "tuple") (fun xs H Q => ∃ p ys, xs = [.ref p] ∧ ((SqL K H p ys ∧ ∀ l, H l = none → Q (.ref l) (upd H l (.tup ys))) ∨ (SqT K H p ys ∧ Q (.ref p) H))) := h ▸ call_tuple_of
theorem call_listK (h : X.K = K := by rfl) : CallR X (.type "list") (fun xs H Q => ∃ p ys, xs = [.ref p] ∧ (SqL K H p ys ∨ SqT K H p ys) ∧ ∀ l, H l = none → Q (.ref l) (upd H l (.lst ys))) := h ▸ call_list_of
/-- two names in slots i, j of a pair -/
theorem pg_pairK {i j : Nat} {x y : Str} {px py pos : Pos} {k : Nat} (hc : X.calm = true) (hN : X.N.Nodup) (hi : X.N[i]? = some x) (hj : X.N[j]? = some y) (hx : Loc X.env.scope x) (hy : Loc X.env.scope y) (h : X.K = K := by rfl)
    (hf : X.fn x = true ∨ X.env.scope.names.lookup x = some .local := by first | exact .inl rfl | exact .inr rfl) (hf2 : X.fn y = true ∨ X.env.scope.names.lookup y = some .local := by first | exact .inl rfl | exact .inr rfl) :
    PG X (.Tuple [.Name x px, .Name y py] k pos) (gTup K 2 (gCons (gName i) (gCons (gName j) gNil))) := by
  subst h
  exact pg_tup hc (pgs_cons (pg_name hN hi hx hf) (pgs_cons (pg_name hN hj hy hf2) pgs_nil))
end

/-! ### tables -/
/-- the table tb stands at a: a tuple of tuples of ints -/
noncomputable def Tab (H : Hp) (a : Addr) (tb : List (List Int)) : Prop := ∃ rs : List Addr, H a = some (.tup (rs.map V.ref)) ∧ Paired (fun r row => H r = some (.tup (List.map V.int row))) rs tb
theorem Paired.get2 {α β : Type} {F : α → β → Prop} : ∀ {xs : List α} {ys : List β} {i : Nat} {y : β}, Paired F xs ys → ys[i]? = some y → ∃ x, xs[i]? = some x ∧ F x y
  | _, _, _, _, .nil, e => by simp at e
  | _, _, 0, _, .cons r _, e => by simp at e; subst e; exact ⟨_, rfl, r⟩
  | _, _, i + 1, y, .cons _ t, e => by
    obtain ⟨x, h1, h2⟩ := Paired.get2 (i := i) (y := y) t (by simpa using e)
    exact ⟨x, by simpa using h1, h2⟩
theorem Paired.get1 {α β : Type} {F : α → β → Prop} : ∀ {xs : List α} {ys : List β} {i : Nat} {x : α}, Paired F xs ys → xs[i]? = some x → ∃ y, ys[i]? = some y ∧ F x y
  | _, _, _, _, .nil, e => by simp at e
  | _, _, 0, _, .cons r _, e => by simp at e; subst e; exact ⟨_, rfl, r⟩
  | _, _, i + 1, x, .cons _ t, e => by
    obtain ⟨y, h1, h2⟩ := Paired.get1 (i := i) (x := x) t (by simpa using e)
    exact ⟨y, by simpa using h1, h2⟩
theorem Tab.keeps {H H' : Hp} {a : Addr} {tb : List (List Int)} (s : TSame H H') (t : Tab H a tb) : Tab H' a tb := by
  obtain ⟨rs, h1, h2⟩ := t
  exact ⟨rs, s _ _ h1, L2.Paired.imp' (fun r row e => s _ _ e) h2⟩
/-- n houses -/
noncomputable def Wf (n : Nat) (tb : List (List Int)) : Prop := tb.length = n ∧ ∀ row ∈ tb, row.length = n + 1 ∧ ∀ x ∈ row, (0 : Int) ≤ x
theorem Wf.row {n : Nat} {tb : List (List Int)} (w : Wf n tb) {i : Nat} (hi : i < n) : ∃ row, tb[i]? = some row ∧ row.length = n + 1 ∧ ∀ x ∈ row, (0 : Int) ≤ x := by
  have h : i < tb.length := by rw [w.1]; exact hi
  exact ⟨tb[i], by simp [h], w.2 _ (List.getElem_mem h)⟩
/-- sizes alone -/
noncomputable def Sz (n : Nat) (tb : List (List Int)) : Prop := tb.length = n ∧ ∀ row ∈ tb, row.length = n + 1
theorem Wf.sz {n : Nat} {tb : List (List Int)} (w : Wf n tb) : Sz n tb := ⟨w.1, fun r h => (w.2 r h).1⟩
theorem Sz.row {n : Nat} {tb : List (List Int)} (w : Sz n tb) {i : Nat} (hi : i < n) : ∃ row, tb[i]? = some row ∧ row.length = n + 1 := by
  have h : i < tb.length := by rw [w.1]; exact hi
  exact ⟨tb[i], by simp [h], w.2 _ (List.getElem_mem h)⟩
theorem Sz.getD {n : Nat} {tb : List (List Int)} (w : Sz n tb) {i : Nat} (hi : i < n) : (tb.getD i []).length = n + 1 ∧ tb[i]? = some (tb.getD i []) := by
  obtain ⟨row, e, l⟩ := w.row hi
  have : tb.getD i [] = row := by rw [List.getD, e]; rfl
  rw [this]; exact ⟨l, e⟩
/-- a list of references to rows, made into a table -/
theorem tab_of {H : Hp} {a : Addr} {ys : List V} {tb : List (List Int)} (h : H a = some (.tup ys)) (hl : ys.length = tb.length) (hr : ∀ (i : Nat) y, ys[i]? = some y → ∃ r row, y = .ref r ∧ tb[i]? = some row ∧ H r = some (.tup (row.map V.int))) : Tab H a tb := by
  have key : ∀ (ys : List V) (tb : List (List Int)), ys.length = tb.length → (∀ (i : Nat) y, ys[i]? = some y → ∃ r row, y = .ref r ∧ tb[i]? = some row ∧ H r = some (.tup (row.map V.int))) →
      ∃ rs : List Addr, ys = rs.map V.ref ∧ Paired (fun r row => H r = some (.tup (List.map V.int row))) rs tb := by
    intro ys
    induction ys with
    | nil =>
      intro tb hl _
      cases tb with
      | nil => exact ⟨[], rfl, .nil⟩
      | cons _ _ => simp at hl
    | cons y r ih =>
      intro tb hl hr
      cases tb with
      | nil => simp at hl
      | cons row rest =>
        obtain ⟨rs, e1, e2⟩ := ih rest (by simpa using hl) fun i z e => by
          obtain ⟨q, w, a1, a2, a3⟩ := hr (i + 1) z (by simpa using e)
          exact ⟨q, w, a1, by simpa using a2, a3⟩
        obtain ⟨q, w, a1, a2, a3⟩ := hr 0 y rfl
        have : row = w := by simpa using a2
        subst this
        exact ⟨q :: rs, by rw [a1, e1]; rfl, .cons a3 e2⟩
  obtain ⟨rs, e1, e2⟩ := key ys tb hl hr
  exact ⟨rs, by rw [h, e1], e2⟩
theorem kit_ii (K : PySem.W.Frag) : PySem.W.kitOne K (.type "int") (.type "int") = some true := rfl
theorem kit_ib (K : PySem.W.Frag) : PySem.W.kitOne K (.type "int") (.type "bool") = some false := by
  first | rfl | kernel_rfl
end L2

namespace L2
open PySem PySem.Spec PyProof.Rows PySem.W PySem.Builtin.Getset_descriptor

/-- what the walk asks of an own class of exceptions -/
structure XCls (K : Frag) (C : Addr) : Prop where
  cls : (clsIn K C).isSome = true
  ga : findIn K (.ref C) "__getattribute__" = some (some (.builtin "BaseException.__getattribute__"))
  gt : findIn K (.ref C) "__getattr__" = some none
  cl : findIn K (.ref C) "__class__" = some (some (.builtin "object.__class__"))
  gs : specialIn K (.builtin "object.__class__") "__get__" = some (some (.builtin "getset_descriptor.__get__"))
  tk : takesIn K (.builtin "object.__class__") = some true
  ob : mroIn K C (.type "object") = some true
  be : mroIn K C (.type "BaseException") = some true
/-- an exception of the class at C stands at x -/
noncomputable def IsX (x C : Addr) (h : Heap) : Prop := ∃ ox, h.get? x = some ox ∧ ox.cls = .ref C
theorem IsX.type {M : Model} {h : Heap} {x C : Addr} (I : IsX x C h) : Looks M h (typeOf (.ref x)) (.ref C) := by
  obtain ⟨ox, h1, h2⟩ := I
  exact h2 ▸ (Looks.ld h1).andThen .now
theorem xc_find {K : Frag} {M : Model} {h : Heap} {x C : Addr} (X : K.In h) (F : XCls K C) : Looks M h (Builtin.ObjectAttr.find (.ref x) (.ref C) "__class__") (.bind (.builtin "getset_descriptor.__get__") (.builtin "object.__class__")) := by
  have L1 := looks_findIn (M := M) X F.cl
  have L2 : Looks M h (Builtin.ObjectAttr.getOf (some (.builtin "object.__class__"))) (some (.builtin "getset_descriptor.__get__")) := looks_specialIn X F.gs
  have L3 : Looks M h (Builtin.ObjectAttr.dataDescriptor? (some (.builtin "object.__class__")) (some (.builtin "getset_descriptor.__get__"))) (some (.builtin "getset_descriptor.__get__", .builtin "object.__class__")) := (looks_takesIn X F.tk).andThen .now
  exact L1.andThen (L2.andThen (L3.andThen (Looks.tag .now)))
section
variable {prog : Program} {w : World} {A : Around} {E : Value → Shared → Prop} {h : Heap} {g : Array GenState} {d : Drawn} {t : Nat} {os : OsState} {K : Frag} {x C : Addr}
theorem xc_get {tp : Value} {R : Result → Shared → Prop} (X : K.In h) (F : XCls K C) (I : IsX x C h) (hq : R (.ok (.ret (.ref C))) ⟨h, g, d, t, os⟩) : codeAny (model prog w) A (.call (.builtin "getset_descriptor.__get__") ⟨[.builtin "object.__class__", .ref x, tp], []⟩) R ⟨h, g, d, t, os⟩ := by
  have L0 := I.type (M := model prog w)
  have L1 := looks_mroIn (M := model prog w) X F.ob
  refine codeAny_call_builtin KF.slot_gs.plain KF.entry_gs (KF.slot_gs.check _ _ _ _ _ _ _ _ KF.type_class (KF.args_gs _ _ _) ?_)
  unfold Builtin.«getset_descriptor.__get__» descrGet
  rw [dga_obj]
  refine wpAny_bind (wpAny_pure ?_)
  unfold descrGetter descrCheckInstance descrNameAndClass isInstance
  simp only [KF.owner_class]
  repeat lk
  refine ⟨Code.quiet_builtin _ (by decide +kernel), codeAny_builtin KF.entry_class ?_⟩
  unfold Builtin.«object.__class__» shownTypeOf
  repeat lk
  exact hq
theorem xc_entry {tk : Tok} {Q : Fin → Shared → Prop} (X : K.In h) (F : XCls K C) (I : IsX x C h) (hq : Q (.done (.ret (.ref C))) ⟨h, g, d, t, os⟩) :
    wpAny (model prog w) A (Builtin.«object.__getattribute__» ⟨[.ref x, .str "__class__" tk], []⟩) Q E ⟨h, g, d, t, os⟩ := by
  have L0 := I.type (M := model prog w)
  have L1 := xc_find (M := model prog w) (x := x) X F
  unfold Builtin.«object.__getattribute__»
  refine wpAny_bind (wpAny_pure ?_)
  refine wpAny_bind (wpAny_pure ?_)
  refine wpAny_bind (L0.at (wpAny_bind (L1.at ?_)))
  show wpAny _ _ (Builtin.ObjectAttr.bindTo (.builtin "getset_descriptor.__get__") (.builtin "object.__class__") (.ref x) (.ref C)) _ _ _
  unfold Builtin.ObjectAttr.bindTo
  refine wpAny_bind (wpAny_holding (wpAny_call (xc_get X F I ?_)))
  exact wpAny_pure hq
theorem xc_check {M : Model} {nameV : Value} {Q : Unit → Shared → Prop} (X : K.In h) (F : XCls K C) (I : IsX x C h) (hq : Q () ⟨h, g, d, t, os⟩) : wpAny M A (checkBuiltinCall "BaseException.__getattribute__" ⟨[.ref x, nameV], []⟩) Q E ⟨h, g, d, t, os⟩ := by
  have hk : builtinKind "BaseException.__getattribute__" = some .slot := by decide +kernel
  have hsplit : splitId "BaseException.__getattribute__" = some ("BaseException", "__getattribute__") := by decide +kernel
  have LI : Looks M h (isInstance (.ref x) (.type "BaseException")) true := (I.type).andThen (looks_mroIn X F.be)
  have ha := PySem.F.args_bexc_ga (.ref x) nameV
  simp only [checkBuiltinCall, hk, hsplit]
  refine wpAny_bind (LI.at ?_)
  simp only [Bool.not_true, Bool.false_eq_true, if_false]
  exact wpAny_of_eq ha hq
theorem xc_call {tk : Tok} {R : Result → Shared → Prop} (X : K.In h) (F : XCls K C) (I : IsX x C h) (hq : R (.ok (.ret (.ref C))) ⟨h, g, d, t, os⟩) :
    codeAny (model prog w) A (.call (.builtin "BaseException.__getattribute__") ⟨[.ref x, .str "__class__" tk], []⟩) R ⟨h, g, d, t, os⟩ :=
  codeAny_call_builtin PySem.F.attr_ValueError.ga.plain PySem.F.entry_bexc_ga (xc_check X F I (xc_entry X F I hq))
theorem xc_by {tk : Tok} {Q : Value → Shared → Prop} (X : K.In h) (F : XCls K C) (I : IsX x C h) (hq : Q (.ref C) ⟨h, g, d, t, os⟩) : wpAny (model prog w) A (getAttrBy (.ref x) (.str "__class__" tk) false) Q E ⟨h, g, d, t, os⟩ := by
  have L0 := I.type (M := model prog w)
  have L1 := looks_findIn (M := model prog w) X F.ga
  have L2 := looks_findIn (M := model prog w) X F.gt
  have hx2 : (Value.builtin "BaseException.__getattribute__" == Value.builtin "object.__getattribute__") = false := by decide +kernel
  have hx1 : (onTheHeap (Value.ref C) && Value.builtin "BaseException.__getattribute__" == Value.builtin "object.__getattribute__") = false := by rw [hx2]; rfl
  have f3 := PySem.F.attr_ValueError.ga.bind (.ref x)
  unfold getAttrBy
  refine wpAny_holding (wpAny_bind (L0.at (wpAny_bind (L1.at ?_))))
  repeat (any_goals (first | assumption | with_reducible refine L2.at ?_ | wp_step))
  refine xc_call X F I ?_
  repeat (any_goals (first | assumption | wp_step))
theorem xc_attr {Q : Option Value → Shared → Prop} (X : K.In h) (F : XCls K C) (I : IsX x C h) (hq : Q (some (.ref C)) ⟨h, g, d, t + 1, os⟩) : wpAny (model prog w) A (getAttr? (.ref x) "__class__") Q E ⟨h, g, d, t, os⟩ := by
  unfold getAttr? getAttrBy?
  repeat (any_goals (first | assumption | with_reducible apply xc_by X F I | wp_step))
end
theorem kitx_exc {K : Frag} {x C : Addr} (F : XCls K C) : KitX K (.ref x) (.ref C) (IsX x C) where
  ty := fun _ _ _ I => I.type
  it := fun _ _ X _ => by
    obtain ⟨cdD, hcD⟩ := Option.isSome_iff_exists.mp F.cls
    unfold clsIn at hcD
    split at hcD
    · rename_i c' d' cd' sl' ho
      intro A' Q' E' s' k q
      unfold isType loadHead
      exact wpAny_bind (wpAny_loadPart (k _ _ (X _ _ ho)) (wpAny_pure q))
    · cases hcD
  ne := fun h tp dd its n sl X htp => by
    obtain ⟨cdD, hcD⟩ := Option.isSome_iff_exists.mp F.cls
    refine Bool.eq_false_iff.mpr fun q => ?_
    have e : C = tp := Value.ref.inj (beq_iff_eq.mp q)
    subst e
    unfold clsIn at hcD
    split at hcD
    · rename_i c' d' cd' sl' ho
      have z := (X _ _ ho).symm.trans htp
      cases z
    · cases hcD
  ca := fun {prog w A E Q s} X I k => by
    obtain ⟨h, g, d, t, os⟩ := s
    exact xc_attr X F I k
end L2

namespace L2
open PySem PySem.Spec PyProof.Rows

theorem ObjOk.there {P : Program} {w : World} {H : Hp} {h : Heap} {a : Addr} {o : HO} (x : ObjOk P w H h a o) : ∃ u, h.get? a = some u := by
  cases o with
  | lst xs => obtain ⟨_, _, _, _, e⟩ := x; exact ⟨_, e⟩
  | tup xs => obtain ⟨_, _, _, o, e, _⟩ := x; exact ⟨o, e⟩
  | dK kvs => obtain ⟨_, _, _, _, o, _, _, e, _⟩ := x; exact ⟨o, e⟩
  | dT kvs => obtain ⟨_, _, _, _, o, _, _, e, _⟩ := x; exact ⟨o, e⟩
  | set S n => obtain ⟨o, _, _, _, e, _⟩ := x; exact ⟨o, e⟩
  | ins C dx fs => obtain ⟨_, _, _, e, _⟩ := x; exact ⟨_, e⟩
  | own y => exact x
  | xd fs => obtain ⟨_, ⟨o, _, _, e, _⟩, _⟩ := x; exact ⟨o, e⟩
  | rng lo hi => obtain ⟨_, _, _, e⟩ := x; exact ⟨_, e⟩
  | frz ob u => obtain ⟨e, _⟩ := x; exact ⟨_, e⟩
  | tbl ps => exact ⟨_, x⟩
  | met f y => exact ⟨_, x⟩
  | ext φ => exact x.2.1
theorem HOk.none_of {P : Program} {w : World} {H : Hp} {h : Heap} {a : Addr} (x : HOk P w H h) (e : h.get? a = none) : H a = none := by
  cases q : H a with
  | none => rfl
  | some o =>
    obtain ⟨u, z⟩ := (x a o q).there
    rw [e] at z
    cases z

/-- an exception of the class cls, at a, has left the code: B holds all but the frames -/
structure Fly (P : Program) (w : World) (outer : List Env) (H H' : Hp) (s s' : Shared) (a : Addr) (cls a0 : Value) (B : Heap) : Prop where
  os : s'.os = s.os
  bare : AllBare s'.gens
  fl : Heap.FlyingW B outer a cls a0 s'.heap
  hokB : HOk P w H' B
  keep : ∀ b o, s.heap.get? b = some o → H b = none → b ∉ frs outer → B.get? b = some o
  there : ∀ b o, s.heap.get? b = some o → b ∉ frs outer → ∃ o', B.get? b = some o'
  slot : ∀ b o, s.heap.get? b = some o → b ∈ frs outer → ∃ sl, s'.heap.get? b = some { o with slots := sl }
  free : ∀ b o, s.heap.get? b = some o → H b = none → H' b = none
  tups : ∀ b xs, H b = some (.tup xs) → H' b = some (.tup xs)
  frzs : ∀ b o u, H b = some (.frz o u) → H' b = some (.frz o u)
  tbls : ∀ b ps, H b = some (.tbl ps) → ∃ more, H' b = some (.tbl (ps ++ more))
section
variable {P : Program} {w : World} {K : PySem.W.Frag} {mg : Str → Option Value} {base : Heap} {N : List Str} {qual : Str} {scope : Scope} {f : Addr} {cd : Value} {A : Around} {outer : List Env} {s : Shared} {H : Hp} {E : XK}
end

/-! ### raise C('..') -/
abbrev bmVE : List Value := [.type "ValueError", .type "Exception", .type "BaseException", .type "object"]
theorem own_obj {K : PySem.W.Frag} {h : Heap} {C : Addr} {bmB : List Value} {newId : String} {x : Str} {mg : Str → Option Value} (X : K.In h) (m : mg x = some (.ref C)) (q : PySem.W.excIn K C bmB newId = true) : OwnCls x C bmB newId mg h := by
  refine ⟨m, ?_⟩
  unfold PySem.W.excIn at q
  split at q
  · rename_i dd cd sl ho
    split at q
    · rename_i C' bm k0 k1 k2 k3 n k5 hm hs
      simp only [Bool.and_eq_true, beq_iff_eq, Bool.not_eq_true'] at q
      obtain ⟨⟨⟨⟨⟨rfl, rfl⟩, hdel⟩, ht⟩, hok⟩, hni⟩ := q
      obtain ⟨nm, bs, mro, ns, qn, hd, sn, sub, ab, col, del⟩ := cd
      dsimp only at hm hdel hok hni
      subst hm hdel
      have hsl : sl = #[k0, k1, k2, k3, some (.builtin n), k5] := by
        obtain ⟨l⟩ := sl
        simp only at hs
        rw [hs]
      subst hsl
      exact ⟨bm, ns, nm, qn, bs, hd, sn, sub, ab, col, dd, k0, k1, k2, k3, k5, _, X _ _ ho, .of_isNs (PySem.W.isNs_of_in X hok), PySem.W.nsMap_none_of_in X hok hni, PySem.W.tail_of_in X ht⟩
    · cases q
  · cases q
section
variable {X : Cx}
end
end L2

namespace L2
open PySem PySem.Spec PyProof.Rows

/-- the context of an except suite -/
noncomputable def suiteCx (X : Cx) (a : Addr) : Cx := { X with A := X.A.mark (some (.ref a)), calm := false, xe := fun _ _ => False }
section
variable {X : Cx} {pins : List (Addr × Obj)} {σ : St} {H H' : Hp} {s s' : Shared} {a C : Addr}
theorem Inv.suite (I : Inv X pins σ H s) (a : Addr) : Inv (suiteCx X a) pins σ H s :=
  ⟨⟨I.ok.mod, I.ok.kind, I.ok.glob, I.ok.blt, I.ok.above, I.ok.inj, I.ok.has, I.ok.cab, fun h => (by cases h), I.ok.frames, I.ok.stk, I.ok.exf, I.ok.bs, I.ok.bsz, I.ok.noex, I.ok.exfs, I.ok.funs, I.ok.frf⟩, I.os, I.bare, I.base, I.loc, I.cell, I.free, I.freeC, I.pin, I.hok, I.len⟩
theorem Inv.unsuite (ok : X.Ok) (I : Inv (suiteCx X a) pins σ H s) : Inv X pins σ H s := ⟨ok, I.os, I.bare, I.base, I.loc, I.cell, I.free, I.freeC, I.pin, I.hok, I.len⟩
/-- the exception has landed: the frame stands as it did -/
theorem Fly.inv {cls a0 : Value} {B h5 : Heap} (I : Inv X pins σ H s) (F : Fly X.prog X.w X.stack H H' s s' a cls a0 B) (kB : B.StaysIn h5) (sm : s'.heap.UpToSlots h5) : Inv X pins σ H' { s' with heap := h5 } := by
  have sl : ∀ b o, s.heap.get? b = some o → b ∈ frs X.stack → ∃ sl, h5.get? b = some { o with slots := sl } := fun b o q hb => by
    obtain ⟨sl, z⟩ := F.slot b o q hb
    obtain ⟨_, o', ho', hnf⟩ := I.stack.mem hb
    rw [q] at ho'
    cases ho'
    obtain ⟨sl', z'⟩ := sm b _ z hnf
    exact ⟨sl', z'⟩
  refine I.call' (s' := { s' with heap := h5 }) (ch := []) F.os ⟨fun b o q n hb _ => kB _ _ (F.keep b o q n hb), fun b o q n hb _ => sl b o q hb, fun b o q n _ => F.free b o q n, fun b o q _ => ?_, F.tups, F.frzs, F.tbls⟩ (F.hokB.kept kB) F.bare fun b z => absurd z (by simp)
  by_cases hb : b ∈ frs X.stack
  · obtain ⟨sl, z⟩ := sl b o q hb
    exact ⟨_, z⟩
  · obtain ⟨o', z⟩ := F.there b o q hb
    exact ⟨o', kB _ _ z⟩
theorem Fly.new {cls a0 : Value} {B : Heap} (F : Fly X.prog X.w X.stack H H' s s' a cls a0 B) : s.heap.get? a = none ∧ H' a = none := by
  have hB : B.get? a = none := F.fl.2.1
  refine ⟨?_, F.hokB.none_of hB⟩
  cases q : s.heap.get? a with
  | none => rfl
  | some o =>
    by_cases hb : a ∈ frs X.stack
    · obtain ⟨_, o', ho', hnf⟩ := F.fl.2.2.1.mem hb
      obtain ⟨oe, vs, he, _, hd, _⟩ := F.fl.first
      rw [ho'] at he
      cases he
      exact absurd hd (hnf vs)
    · obtain ⟨o', z⟩ := F.there a o q hb
      rw [hB] at z
      cases z
/-- a thing that is new to the frame is tracked -/
theorem Inv.track {s1 : Shared} {φ : Heap → Prop} (I0 : Inv X pins σ H s) (hex : ∀ b, b ∉ X.ex) (h0 : s.heap.get? a = none) (I : Inv X pins σ H' s1) (hn : H' a = none) (o : ObjOk X.prog X.w (upd H' a (.ext φ)) s1.heap a (.ext φ)) : Inv X pins σ (upd H' a (.ext φ)) s1 := by
  have ne0 : ∀ b u, s.heap.get? b = some u → b ≠ a := fun b u e z => by rw [z, h0] at e; cases e
  have nes : ∀ b u, X.s₀.heap.get? b = some u → b ≠ a := fun b u e => by
    obtain ⟨u', e'⟩ := I0.base.there b u e (hex b)
    exact ne0 b u' e'
  refine ⟨I.ok, I.os, I.bare, ?_, I.loc, I.cell, ?_, ?_, ?_, ?_, I.len⟩
  · have u0 := I.base
    exact ⟨u0.keep, u0.slot, fun c o e n hx => by rw [upd_ne (nes c o e)]; exact u0.free c o e n hx, u0.there,
      fun c ts e => by have := u0.tups c ts e; rw [upd_ne (ne_of_none this hn)]; exact this,
      fun c o ts e => by have := u0.frzs c o ts e; rw [upd_ne (ne_of_none this hn)]; exact this,
      fun c ps e => by obtain ⟨more, q⟩ := u0.tbls c ps e; exact ⟨more, by rw [upd_ne (ne_of_none q hn)]; exact q⟩⟩
  · obtain ⟨m, ⟨o, _, _, e, _⟩, _⟩ := I0.loc
    rw [upd_ne (ne0 _ _ e)]; exact I.free
  · intro x c e
    obtain ⟨v, o, z, _⟩ := I0.cell x c e
    rw [upd_ne (ne0 _ _ z)]; exact I.freeC x c e
  · intro p hp
    obtain ⟨e, n, ne, nf, d⟩ := I.pin p hp
    exact ⟨e, by rw [upd_ne (ne0 _ _ (I0.pin p hp).1)]; exact n, ne, nf, d⟩
  · intro c u q
    by_cases hc : c = a
    · subst hc
      rw [upd_same] at q; cases q
      exact o
    · rw [upd_ne hc] at q
      exact (I.hok c u q).stay (fun _ _ _ r => r) (fun c' r => by rw [upd_ne (ne_of_none r hn)]; exact r) fun c' ts r => by rw [upd_ne (ne_of_none r hn)]; exact r
/-- a name is gone -/
theorem Inv.forget {i : Nat} {n : Str} {m : Str → Option Value} {h' : Heap} {v : Option Value} {tk : Nat} (I : Inv X pins σ H s) (hN : X.N.Nodup) (hi : X.N[i]? = some n) (hl : ∀ (i : Nat) (x : Str) (v : V), X.N[i]? = some x → σ[i]? = some (some v) → Vis X.env.scope x → ∃ u, RelV v u ∧ Look X.env s.heap m x u)
    (hn' : h'.Ns X.env.locals (fun x => if x = n then v else m x)) (hs : Heap.SameBut X.env.locals s.heap h') : Inv X pins (σ.set i none) H { s with heap := h', toks := tk } := by
  have cne := I.cne
  have tracked : HOk X.prog X.w H h' := I.hok.same I.free hs
  have neL : ∀ b o, X.s₀.heap.get? b = some o → b ≠ X.env.locals := fun b o e => Nat.ne_of_lt (Nat.lt_of_lt_of_le (Heap.lt_size e) I.ok.above)
  refine ⟨I.ok, I.os, I.bare, ⟨fun b o e n hb hx => (hs.2 b (neL b o e)).trans (I.base.keep b o e n hb hx), fun b o e n hb hx => ?_, I.base.free, fun b o e hx => ?_, I.base.tups, I.base.frzs, I.base.tbls⟩, ⟨_, hn', fun j y v' e1 e2 e3 => ?_⟩, fun y c e => ?_, I.free, I.freeC, fun p hp => ?_, tracked, by simpa using I.len⟩
  · obtain ⟨sl, z⟩ := I.base.slot b o e n hb hx
    exact ⟨sl, (hs.2 b (neL b o e)).trans z⟩
  · obtain ⟨o', z⟩ := I.base.there b o e hx
    exact ⟨o', (hs.2 b (neL b o e)).trans z⟩
  · by_cases hj : j = i
    · subst hj
      rw [hi] at e1; cases e1
      have : j < σ.length := by have := (List.getElem?_eq_some_iff.mp e2).1; simpa using this
      rw [List.getElem?_set_self this] at e2
      cases e2
    · rw [List.getElem?_set_ne (Ne.symm hj)] at e2
      obtain ⟨u, r, q⟩ := hl j y v' e1 e2 e3
      refine ⟨u, r, ?_⟩
      rcases q with ⟨k, e⟩ | ⟨k, c, e, z⟩
      · refine .inl ⟨k, ?_⟩
        have : y ≠ n := fun e => hj (nodup_ix hN e1 (e ▸ hi))
        simp [this, e]
      · exact .inr ⟨k, c, e, z.sameBut hs (cne y c e)⟩
  · obtain ⟨w', z⟩ := I.cell y c e
    exact ⟨w', z.sameBut hs (cne y c e)⟩
  · obtain ⟨e, n, ne, nf, d⟩ := I.pin p hp
    exact ⟨(hs.2 p.1 ne).trans e, n, ne, nf, d⟩

end

/-! ### try: f(..) except C as e: .. -/
section
variable {X : Cx}
end
/-! ### isinstance of an exception -/
section
variable {X : Cx}
end
end L2

namespace L2
open PySem PySem.Spec PyProof.Rows

section
variable {X : Cx}
end

/-! ### equality of tables -/
theorem all_eq {α : Type} [DecidableEq α] (d : α) (xs ys : List α) : ((List.range (min xs.length ys.length)).all (fun j => decide (xs.getD j d = ys.getD j d)) && xs.length == ys.length) = decide (xs = ys) := by
  rw [Bool.eq_iff_iff, Bool.and_eq_true, decide_eq_true_iff, List.all_eq_true, beq_iff_eq]
  constructor
  · rintro ⟨h, hl⟩
    apply List.ext_getElem hl
    intro i h1 h2
    have := of_decide_eq_true (h i (List.mem_range.mpr (by omega)))
    rw [getD_at _ _ h1, getD_at _ _ h2] at this
    exact this
  · rintro rfl
    exact ⟨fun j _ => decide_eq_true rfl, rfl⟩
section
variable {X : Cx} {pins : List (Addr × Obj)} {s : Shared} {σ : St} {H : Hp}
open PySem.SeqAt
theorem ints_at {ns : List Int} {its : List Value} (r : Vals (ns.map V.int) its) {j : Nat} (hj : j < its.length) : ∃ t, its[j] = .int (ns.getD j 0) t := by
  have hl : its.length = ns.length := by rw [← r.length, List.length_map]
  obtain ⟨x, e1, e2⟩ := Paired.get2 (show Paired RelV _ _ from r) (List.getElem?_eq_getElem hj)
  rw [List.getElem?_map, List.getElem?_eq_getElem (by omega : j < ns.length)] at e1
  cases e1
  rw [getD_at _ _ (by omega : j < ns.length)]
  exact e2
theorem row_eqAt {A : Around} {r1 r2 : Addr} {ns ms : List Int} (I : Inv X pins σ H s) (h1 : H r1 = some (.tup (ns.map V.int))) (h2 : H r2 = some (.tup (ms.map V.int))) (hu : A.units < cLine) : EqAt A s (.ref r1) (.ref r2) (decide (ns = ms)) := by
  by_cases e : r1 = r2
  · subst e
    rw [h1] at h2
    have : ns = ms := by
      have z : ns.map V.int = ms.map V.int := by injection h2 with z; injection z
      exact (List.map_inj_right (fun a b h => by injection h)).mp z
    rw [decide_eq_true this]
    exact EqAt.same _
  · obtain ⟨its, v1, p1, _⟩ := I.tuple (SqT.of (K := X.K) h1)
    obtain ⟨its2, v2, p2, _⟩ := I.tuple (SqT.of (K := X.K) h2)
    have l1 : its.toArray.size = ns.length := by rw [List.size_toArray, ← v1.length, List.length_map]
    have l2 : its2.toArray.size = ms.length := by rw [List.size_toArray, ← v2.length, List.length_map]
    rw [← all_eq 0, ← l1, ← l2]
    refine EqAt.of_refs e (RcAt.tuples (items := its.toArray) (items2 := its2.toArray) p1 p2 hu fun j h1 h2 => ?_)
    obtain ⟨t1, e1⟩ := ints_at v1 (j := j) (by simpa using h1)
    obtain ⟨t2, e2⟩ := ints_at v2 (j := j) (by simpa using h2)
    rw [List.getElem_toArray, List.getElem_toArray, e1, e2]
    have := EqAt.int_int (A := A.in1) (s := s) (ns.getD j 0) t1 (ms.getD j 0) t2
    rw [show (ns.getD j 0 == ms.getD j 0) = decide (ns.getD j 0 = ms.getD j 0) from rfl] at this
    exact this
theorem tab_items {a : Addr} {t1 : List (List Int)} (I : Inv X pins σ H s) (h : Tab H a t1) : ∃ its : List Value, s.heap.IsTuple a its.toArray ∧ its.length = t1.length ∧ ∀ (j : Nat) (hj : j < its.length), ∃ r, its[j] = .ref r ∧ H r = some (.tup ((t1.getD j []).map V.int)) := by
  obtain ⟨rs, ha, pr⟩ := h
  obtain ⟨its, v1, p1, _⟩ := I.tuple (SqT.of (K := X.K) ha)
  have hl : its.length = rs.length := by rw [← v1.length, List.length_map]
  have hl2 := Paired.length pr
  refine ⟨its, p1, by omega, fun j hj => ?_⟩
  obtain ⟨x, e1, e2⟩ := Paired.get2 (show Paired RelV _ _ from v1) (List.getElem?_eq_getElem hj)
  rw [List.getElem?_map, List.getElem?_eq_getElem (by omega : j < rs.length)] at e1
  cases e1
  refine ⟨rs[j], e2, ?_⟩
  obtain ⟨row, e3, e4⟩ := Paired.get1 pr (List.getElem?_eq_getElem (by omega : j < rs.length))
  rw [List.getD, e3]
  exact e4
noncomputable def rEqTab (b : Bool) : R2 := fun x y H Q => ∃ a c t1 t2, x = .ref a ∧ y = .ref c ∧ Tab H a t1 ∧ Tab H c t2 ∧ Q (.bl (decide (t1 = t2) != b)) H
theorem tab_eqs {A : Around} {a c : Addr} {t1 t2 : List (List Int)} (I : Inv X pins σ H s) (h1 : Tab H a t1) (h2 : Tab H c t2) (hu : A.units + 1 < cLine) : ∃ (i1 i2 : List Value) (e : Nat → Bool), s.heap.IsTuple a i1.toArray ∧ s.heap.IsTuple c i2.toArray ∧
    (∀ j (h1 : j < i1.toArray.size) (h2 : j < i2.toArray.size), EqAt A.in1 s i1.toArray[j] i2.toArray[j] (e j)) ∧ ((List.range (min i1.toArray.size i2.toArray.size)).all e && i1.toArray.size == i2.toArray.size) = decide (t1 = t2) := by
  obtain ⟨i1, p1, l1, q1⟩ := tab_items I h1
  obtain ⟨i2, p2, l2, q2⟩ := tab_items I h2
  refine ⟨i1, i2, fun j => decide (t1.getD j [] = t2.getD j []), p1, p2, fun j k1 k2 => ?_, ?_⟩
  · obtain ⟨r1, e1, w1⟩ := q1 j (by simpa using k1)
    obtain ⟨r2, e2, w2⟩ := q2 j (by simpa using k2)
    rw [List.getElem_toArray, List.getElem_toArray, e1, e2]
    exact row_eqAt I w1 w2 hu
  · rw [List.size_toArray, List.size_toArray, l1, l2]
    exact all_eq [] t1 t2
theorem op_neTab (hu : X.A.units + 1 < cLine) : OpR X (compareOp .NotEq) (rEqTab true) := by
  intro pins s σ H x y v u Q I rx ry h
  obtain ⟨a, c, t1, t2, rfl, rfl, h1, h2, q⟩ := h
  cases rx
  cases ry
  obtain ⟨i1, i2, e, p1, p2, he, eb⟩ := tab_eqs (A := X.A) I h1 h2 hu
  refine RcNeAt.tuples p1 p2 (by omega) he _ _ _ _ ?_
  rw [eb]
  rw [Bool.bne_true] at q
  exact ⟨.bl _, H, I, rfl, q⟩
end
end L2

namespace L2
open PySem PySem.Spec PyProof.Rows
end L2

namespace L2
open PySem PySem.Spec PyProof.Rows
/-- all stays, but for a list at one place, which stays a list -/
noncomputable def SameBut (a : Addr) (H H' : Hp) : Prop := ∀ b o, H b = some o → H' b = some o ∨ (b = a ∧ ∃ xs ys, o = .lst xs ∧ H' b = some (.lst ys))
theorem Same.but {a : Addr} {H H' : Hp} (s : Same H H') : SameBut a H H' := fun b o e => .inl (s b o e)
theorem SameBut.ne {a b : Addr} {H H' : Hp} {o : HO} (s : SameBut a H H') (n : b ≠ a) (e : H b = some o) : H' b = some o := by
  rcases s b o e with q | ⟨q, _⟩
  · exact q
  · exact absurd q n
theorem SameBut.tup {a b : Addr} {H H' : Hp} {xs : List V} (s : SameBut a H H') (e : H b = some (.tup xs)) : H' b = some (.tup xs) := by
  rcases s b _ e with q | ⟨_, _, _, q, _⟩
  · exact q
  · cases q
theorem SameBut.trans {a : Addr} {H H1 H2 : Hp} (x : SameBut a H H1) (y : SameBut a H1 H2) : SameBut a H H2 := fun b o e => by
  rcases x b o e with q | ⟨rfl, xs, ys, rfl, q⟩
  · exact y b o q
  · rcases y _ _ q with q | ⟨_, xs', ys', _, q⟩
    · exact .inr ⟨rfl, _, _, rfl, q⟩
    · exact .inr ⟨rfl, _, _, rfl, q⟩
theorem samebut_upd {a : Addr} {H : Hp} {xs ys : List V} (h : H a = some (.lst xs)) : SameBut a H (upd H a (.lst ys)) := fun b u e => by
  by_cases n : b = a
  · subst n
    rw [h] at e; cases e
    exact .inr ⟨rfl, _, _, rfl, upd_same⟩
  · exact .inl (by rw [upd_ne n]; exact e)
section
variable {K : PySem.W.Frag} {cap : List (Option Nat)} {te : TE} {σ : St} {H1 : Hp} {Q : VK}
/-- as comp_gen, for elements that may be lists -/
theorem comp_genA {J : It} {g : TG} (n : Nat) (hn : n ≤ sizeLine) (S : St → Prop) (hS : S (capOf cap σ)) (F : Addr → Nat → V → Hp → Prop) (mono : ∀ acc i y H H', SameBut acc H H' → F acc i y H → F acc i y H')
    (stop : ∀ H', Same H1 H' → J.stop n H') (go : ∀ i H', i < n → Same H1 H' → J.go i H')
    (step : ∀ acc ys i σ' H' x H2 (R : V → St → Hp → Prop), i < n → S σ' → Same H1 H' → H1 acc = none → H' acc = some (.lst ys) → J.yld i H' x H2 → (∀ y σ3 H3, S σ3 → Same H' H3 → F acc i y H3 → R y σ3 H3) → g x σ' H2 fun σ3 H3 => te σ3 H3 fun y H4 => R y σ3 H4)
    (fin : ∀ acc ys H', Same H1 H' → H1 acc = none → H' acc = some (.lst ys) → ys.length = n → (∀ i y, ys[i]? = some y → F acc i y H') → Q (.ref acc) H') : compBody J cap g te σ H1 Q := by
  intro acc hacc
  refine ⟨fun i m ys σ' H' => m = n - i ∧ i ≤ n ∧ ys.length = i ∧ S σ' ∧ Same H1 H' ∧ H' acc = some (.lst ys) ∧ ∀ j y, ys[j]? = some y → F acc j y H', ⟨n, by simp, Nat.zero_le _, rfl, hS, same_new hacc, upd_same, fun j y e => (by simp at e)⟩, ?_⟩
  rintro i m ys σ' H' ⟨rfl, hi, hl, hs, hsm, ha, hF⟩
  refine ⟨ha, ?_⟩
  by_cases hlt : i < n
  · refine .inr ⟨go i H' hlt hsm, by omega, fun x H2 y2 => step acc ys i σ' H' x H2 _ hlt hs hsm hacc ha y2 fun y σ3 H3 s3 sm3 f3 => ⟨sm3 _ _ ha, n - (i + 1), by omega, rfl, hlt, by simp [hl], s3, (hsm.trans sm3).upd hacc, upd_same, fun j z e => ?_⟩⟩
    rcases get_snoc e with ⟨_, e⟩ | ⟨rfl, rfl⟩
    · exact mono acc j z _ _ ((Same.but sm3).trans (samebut_upd (sm3 _ _ ha))) (hF j z e)
    · exact mono _ _ _ _ _ (samebut_upd (sm3 _ _ ha)) (hl ▸ f3)
  · have e : i = n := by omega
    subst e
    exact .inl ⟨stop H' hsm, fin acc ys H' hsm hacc ha hl hF⟩
end
/-- a cut between statements -/
theorem seq_cut {t u : TS} {D : Ends} {σ : St} {H : Hp} (I : St → Hp → Prop) (h2 : ∀ σ H, I σ H → u D σ H) (h1 : (∀ σ H, I σ H → u D σ H) → t { D with nx := u D } σ H) : tSeq t u D σ H := h1 h2
/-! ### the same rules, closed: a text with long displays is read faster so -/
structure JE (X : Cx) (e : Expr) (t : TE) : Prop where out : PE X e t
structure JA (X : Cx) (es : List Expr) (t : TA) : Prop where out : PA X es t
structure JS (X : Cx) (st : Stmt) (t : TS) : Prop where out : PS X st t
structure JSs (X : Cx) (sts : List Stmt) (t : TS) : Prop where out : PSs X sts t
section
variable {X : Cx} {pos : Pos}
theorem jok {sts : List Stmt} {R : TS → Prop} (h : ∃ t, JSs X sts t ∧ R t) : ∃ t, PSs X sts t ∧ R t := by
  obtain ⟨t, a, b⟩ := h
  exact ⟨t, a.out, b⟩
theorem ja_nil : JA X [] tNil := ⟨pa_nil⟩
theorem ja_cons {e : Expr} {es : List Expr} {te : TE} {t : TA} (ha : JE X e te) (hr : JA X es t) (hs : starEach (e :: es) X.env = (false, eval e X.env) :: starEach es X.env := by rfl) : JA X (e :: es) (tCons te t) := ⟨pa_cons ha.out hr.out hs⟩
theorem je_lst {es : List Expr} {t : TA} (h : JA X es t) : JE X (.List es pos) (tLst t) := ⟨pe_lst h.out⟩
theorem je_int {i : Int} {j : Nat} : JE X (.Constant (.int i) j pos) (tC (.int i)) := ⟨pe_int⟩
theorem je_ix {a b : Expr} {ta tb : TE} {r : R2} (hr : IxR X r) (ha : JE X a ta) (hb : JE X b tb) (hs : PlainIx b) : JE X (.Subscript a b pos) (tOp r ta tb) := ⟨pe_ix hr ha.out hb.out hs⟩
theorem jss_nil : JSs X [] tNext := ⟨pss_nil⟩
theorem jss_cons {st : Stmt} {rest : List Stmt} {t u : TS} (h1 : JS X st t) (h2 : JSs X rest u) : JSs X (st :: rest) (tSeq t u) := ⟨pss_cons h1.out h2.out⟩
theorem jss_one {st : Stmt} {t : TS} (h1 : JS X st t) : JSs X [st] t := ⟨pss_one h1.out⟩
theorem js_if {c : Expr} {a b : List Stmt} {tc : TT} {t u : TS} (hc : PT X c tc) (ha : JSs X a t) (hb : JSs X b u) : JS X (.If c a b pos) (tIfS tc t u) := ⟨ps_if hc ha.out hb.out⟩
theorem js_set {i : Nat} {x : Str} {e : Expr} {te : TE} {pos' : Pos} (hN : X.N.Nodup) (hi : X.N[i]? = some x) (hx : Loc X.env.scope x) (he : JE X e te) (hs : swapsWith e (some (.Name x pos')) pos.line X.env = pure false := by rfl) (hf : X.fn x = true ∨ X.env.scope.names.lookup x = some .local := by first | exact .inl rfl | exact .inr rfl | assumption) :
    JS X (.Assign [.Name x pos'] e pos) (tAsg te (gName i)) := ⟨ps_set hN hi hx he.out hs hf⟩
end
end L2

namespace L2
open PySem PySem.Spec PyProof.Rows
section
variable {X : Cx}
end
end L2

namespace L2
open PySem PySem.Spec PyProof.Rows
section
variable {X : Cx}
theorem two_of {x y : V} {us : List Value} (r : Vals [x, y] us) : ∃ u w, us = [u, w] ∧ RelV x u ∧ RelV y w := by
  cases r with
  | cons a r =>
    cases r with
    | cons b r =>
      cases r with
      | nil => exact ⟨_, _, rfl, a, b⟩
end
end L2

namespace PySem
open Sem (wp)
/-! ### C(..) of an own class of exceptions that has an __init__ of its own, under own classes -/
section
variable {prog : Program} {w : World} {A : Around} {E : Value → Shared → Prop} {hp : Heap} {gs : Array GenState} {dr : Drawn} {tk : Nat} {sy : OsState}
variable {cn cq : Str} {kC kN : Addr} {bas tl tB : List Value} {hd : Bool} {sns : List Str} {subs : List Value} {abb : Bool} {coll : Option Bool} {dic : Option Addr} {j0 j1 j2 j3 j5 : Option Value} {BB Bn newI nI initI inN : String} {tN : List Value}
theorem typeCall_initU (Fn : ExcBaseFacts Bn newI inN tN) (hBn : tB.contains (.type Bn) = true) (F : ExcBaseFacts BB nI initI tB) (T : OwnTail hp tB tl) {rest : List Value} {f0 : Addr} {o0 : Obj} {Q : Fin → Shared → Prop}
    (oC : hp.get? kC = some (excClassObj cn cq kC kN bas tl hd sns subs abb coll dic j0 j1 j2 j3 j5 newI)) {K : PySem.W.Frag} (X : K.In hp) (ei : PySem.W.findIn K (.ref kC) "__init__" = some (some (.ref f0))) (of : hp.get? f0 = some o0) (cf : o0.cls = .type "function")
    (hq : ∀ h', (∀ b o, hp.get? b = some o → h'.get? b = some o) → h'.get? (hp.objs.size + 1) = some { cls := .ref kC, data := .fields #[.ref hp.objs.size, .none, .none, .none, .bool false, .none] } → wpAny (model prog w) A (call (.ref f0) (.ref (hp.objs.size + 1) :: rest)) (fun r s' => r = .none ∧ Q (.done (.ret (.ref (hp.objs.size + 1)))) s') E ⟨h', gs, dr, tk, sy⟩) (hz : rest.length ≤ sizeLine) :
    wpAny (model prog w) A (Builtin.«type.__call__» ⟨.ref kC :: rest, []⟩) Q E ⟨hp, gs, dr, tk, sy⟩ := by
  repeat (first | with_reducible refine wpAny_loadPart_at oC ?_ | with_reducible refine wpAny_madeBy_exc oC ?_ | wp_step)
  refine codeAny_call_builtin_code (Code.quiet_builtin _ Fn.quiet) (wpAny_check_new_subU Fn hBn T oC ?_)
  refine codeAny_exc_new_subU Fn hBn F T oC ?_ hz
  show wpAny _ _ _ _ _ _
  obtain ⟨h2, e2⟩ : ∃ h2, (hp.push { cls := .type "tuple", data := .seq rest.toArray }).push { cls := .ref kC, data := .fields #[.ref hp.objs.size, .none, .none, .none, .bool false, .none] } = h2 := ⟨_, rfl⟩
  have kp : ∀ b o, hp.get? b = some o → h2.get? b = some o := fun b o q => by rw [← e2]; exact Heap.get?_push_of_some _ (Heap.get?_push_of_some _ q)
  have oe : h2.get? (hp.objs.size + 1) = some { cls := .ref kC, data := .fields #[.ref hp.objs.size, .none, .none, .none, .bool false, .none] } := by rw [← e2]; heap_get
  have ot : h2.get? hp.objs.size = some { cls := .type "tuple", data := .seq rest.toArray } := by rw [← e2]; exact Heap.get?_push_of_some _ (Heap.get?_push_at rfl rfl)
  rw [e2]
  have oC2 := kp _ _ oC
  have self : (Value.ref kC :: tl).contains (.ref kC) = true := by simp
  unfold isInstance
  repeat (first | with_reducible refine wpAny_loadPart_at oe ?_ | (with_reducible refine wpAny_isSubtype_exc oC2 ?_; rw [self]) | wp_step)
  show wpAny _ _ (typeLookup (.ref kC) _) _ _ _
  refine (PySem.W.looks_findIn (X.keeps kp) ei).at ?_
  refine wpAny_holding (wpAny_bind ?_)
  unfold bindSpecial
  refine wpAny_bind (wpAny_typeOf (T := "function") ⟨_, kp _ _ of, cf⟩ ?_)
  rw [if_pos (by decide)]
  refine wpAny_pure (wpAny_bind (wpAny_mono (hq h2 kp oe) (fun r s' z => ?_) fun _ _ z => z))
  obtain ⟨rfl, z⟩ := z
  wp_walk
  exact z
theorem call_initU (Fn : ExcBaseFacts Bn newI inN tN) (hBn : tB.contains (.type Bn) = true) (F : ExcBaseFacts BB nI initI tB) (T : OwnTail hp tB tl) {rest : List Value} {f0 : Addr} {o0 : Obj} {Q : Value → Shared → Prop}
    (oC : hp.get? kC = some (excClassObj cn cq kC kN bas tl hd sns subs abb coll dic j0 j1 j2 j3 j5 newI)) {K : PySem.W.Frag} (X : K.In hp) (ei : PySem.W.findIn K (.ref kC) "__init__" = some (some (.ref f0))) (of : hp.get? f0 = some o0) (cf : o0.cls = .type "function")
    (hq : ∀ h', (∀ b o, hp.get? b = some o → h'.get? b = some o) → h'.get? (hp.objs.size + 1) = some { cls := .ref kC, data := .fields #[.ref hp.objs.size, .none, .none, .none, .bool false, .none] } → wpAny (model prog w) (A.under (.builtin "type.__call__" ⟨.ref kC :: rest, []⟩)) (call (.ref f0) (.ref (hp.objs.size + 1) :: rest)) (fun r s' => r = .none ∧ Q (.ref (hp.objs.size + 1)) s') E ⟨h', gs, dr, tk, sy⟩) (hz : rest.length ≤ sizeLine) :
    wpAny (model prog w) A (call (.ref kC) rest) Q E ⟨hp, gs, dr, tk, sy⟩ := by
  have l1 := tc_lookup
  have l2 := tc_bind (.ref kC)
  have ty : (⟨hp, gs, dr, tk, sy⟩ : Shared).TypeIs (.ref kC) "type" := ⟨_, oC, rfl⟩
  refine wpAny_call (codeAny_of_tree ?_)
  show wpAny _ _ (callAny (.ref kC) _) _ _ _
  repeat (any_goals (first | assumption | with_reducible refine wpAny_loadPart_at oC ?_ | wp_step))
  refine ⟨rfl, ?_⟩
  exact codeAny_call_builtin_at (Code.quiet_builtin _ (by decide +kernel)) entry_typeCall (wpAny_check_type_call_sub oC (typeCall_initU (hz := hz) Fn hBn F T oC X ei of cf fun h' k m => hq h' k m))
end
section
variable {M : Model} {A : Around} {E : Value → Shared → Prop} {env : Env}
variable {cn cq : Str} {kC kN : Addr} {bas tl : List Value} {hd : Bool} {sns : List Str} {subs : List Value} {abb : Bool} {coll : Option Bool} {dic : Option Addr} {j0 j1 j2 j3 j5 : Option Value} {newI : String}
/-- raise e, of an exception whatever its dict -/
theorem raiseStmt_own {s : Shared} {x : Sem Value} {Q : Flow → Shared → Prop} (hb : tl.contains (.type "BaseException") = true) (hh : A.handled = none)
    (h : wpAny M A x (fun v s1 => ∃ e t dv, v = .ref e ∧ s1.heap.get? kC = some (excClassObj cn cq kC kN bas tl hd sns subs abb coll dic j0 j1 j2 j3 j5 newI) ∧
      s1.heap.get? e = some { cls := .ref kC, dict := dv, data := .fields #[.ref t, .none, .none, .none, .bool false, .none] } ∧ E (.ref e) s1) E s) : wpAny M A (raiseStmt env (some x) none) Q E s := by
  have cb : (Value.ref kC :: tl).contains (.type "BaseException") = true := by rw [List.contains_cons, hb, Bool.or_true]
  unfold raiseStmt
  refine wpAny_bind (wpAny_mono h (fun v s1 z => ?_) fun _ _ z => z)
  obtain ⟨e, t, dv, rfl, oC, oe, z⟩ := z
  obtain ⟨hp, gs, dr, tk, sy⟩ := s1
  repeat (first | with_reducible refine wpAny_loadPart_at oe ?_ | with_reducible refine wpAny_loadPart_at oC ?_ | (with_reducible refine wpAny_isSubtype_exc oC ?_; rw [cb]) | wp_step)
  exact wpAny_raiseNew_none hh z
end
end PySem

namespace L2
open PySem PySem.Spec PyProof.Rows PySem.W PySem.Builtin.ObjectAttr
/-- what the walk asks of a class of exceptions whose instances get a name -/
structure XSet (K : Frag) (C W : Addr) (name : Str) : Prop where
  sa : findIn K (.ref C) "__setattr__" = some (some (.builtin "object.__setattr__"))
  ob : mroIn K C (.type "object") = some true
  cls : ∃ cd, clsIn K C = some cd ∧ cd.mro = .ref C :: .ref W :: bmVE ∧ cd.hasDict = true
  no : findIn K (.ref C) name = some none
section
variable {prog : Program} {w : World} {A : Around} {E : Value → Shared → Prop} {s : Shared} {K : Frag} {x C W : Addr} {name : Str} {v : Value}
theorem x_store {vs : Array Value} {Q : Unit → Shared → Prop} (X : K.In s.heap) (S : XSet K C W name) (oe : s.heap.get? x = some { cls := .ref C, data := .fields vs })
    (hq : ∀ h' tk, h'.get? x = some { cls := .ref C, dict := some s.heap.objs.size, data := .fields vs } → h'.Ns1 s.heap.objs.size (fun y => if y = name then some v else none) →
      (∀ b o, b ≠ x → s.heap.get? b = some o → h'.get? b = some o) → Q () { s with heap := h', toks := tk }) : wpAny (model prog w) A (setAttr (.ref x) name v) Q E s := by
  have J : InstAt s.heap x { cls := .ref C, data := .fields vs } C none := ⟨oe, rfl, rfl, True.intro⟩
  obtain ⟨cd, hc, hm, hd⟩ := S.cls
  refine set_plain X J S.sa ?_
  have SF := PySem.F.store_ValueError
  have sub : Looks (model prog w) s.heap (isInstance (.ref x) (.type "object")) true := J.type.andThen (looks_mroIn X S.ob)
  refine codeAny_call_builtin SF.slot.plain SF.entry (@check_slot (model prog w) _ _ { s with toks := s.toks + 1 } "object.__setattr__" "object" "__setattr__" (.ref x) [.str name s.toks, v] [] _ SF.kind SF.split sub (SF.args (.ref x) (.str name s.toks) v) ?_)
  have lm : Looks (model prog w) s.heap (mroOf (.ref C)) cd.mro := (looks_clsIn X hc).andThen .now
  rw [osa_eq, refuse_eq]
  refine wpAny_bind (wpAny_bind (Looks.here (s := { s with toks := s.toks + 1 }) J.type (wpAny_bind (Looks.here (s := { s with toks := s.toks + 1 }) lm ?_))))
  rw [hm, refuseLoop_ref, refuseLoop_ref, SF.passes]
  refine wpAny_pure (wpAny_bind (Looks.here (s := { s with toks := s.toks + 1 }) J.type (wpAny_bind (Looks.here (s := { s with toks := s.toks + 1 }) (looks_findIn X S.no) (wpAny_bind (wpAny_pure ?_))))))
  dsimp only
  unfold storeInOwnDict
  refine wpAny_bind (wpAny_pure (wpAny_bind ?_))
  unfold ownDictForStores instanceDict
  refine wpAny_bind (wpAny_loadPart oe (wpAny_bind (Looks.here (s := { s with toks := s.toks + 1 }) (looks_clsIn X hc) ?_)))
  rw [hd]
  have od : (s.heap.push { cls := .type "dict", data := .dict #[] }).get? x = some { cls := .ref C, data := .fields vs } := Heap.get?_push_of_some _ oe
  have xs : x ≠ s.heap.objs.size := Nat.ne_of_lt (Heap.lt_size oe)
  have th : typeHasDict (.ref C) = true := rfl
  dsimp only
  rw [if_neg (by decide), if_neg (by rw [th]; decide)]
  refine wpAny_bind (wpAny_alloc' ?_)
  refine wpAny_bind (wpAny_update' od ?_)
  refine wpAny_pure ?_
  obtain ⟨h2, e2⟩ : ∃ h2, ((s.heap.push { cls := .type "dict", data := .dict #[] }).update x fun o => { cls := o.cls, dict := some s.heap.objs.size, data := o.data, slots := o.slots }) = h2 := ⟨_, rfl⟩
  have g2 : h2.get? s.heap.objs.size = some { cls := .type "dict", data := .dict #[] } := by rw [← e2]; exact (Heap.get?_update_ne _ _ _ _ xs.symm).trans (Heap.get?_push_at rfl rfl)
  have x2 : h2.get? x = some { cls := .ref C, dict := some s.heap.objs.size, data := .fields vs } := by rw [← e2]; exact Heap.get?_update_self _ od rfl
  have k2 : ∀ b o, b ≠ x → s.heap.get? b = some o → h2.get? b = some o := fun b o n q => by rw [← e2]; exact (Heap.get?_update_ne _ _ _ _ n).trans (Heap.get?_push_of_some _ q)
  have n2 : h2.Ns s.heap.objs.size (fun _ => none) := ⟨_, #[], _, g2, rfl, fun e he => absurd he (by simp), fun _ => rfl⟩
  show wpAny _ _ (storeInDict s.heap.objs.size (.str name s.toks) name v) _ _ _
  rw [e2]
  unfold storeInDict newKeyGuard
  refine wpAny_bind (wpAny_pure (wpAny_bind (wpAny_nsSet1 (Heap.Ns1.of_empty n2) fun h' n' sb => ?_)))
  obtain ⟨oD, esD, epD, hoD, hdD, hcD⟩ := n'.count (Within.cons name v Within.nil)
  refine wpAny_bind (wpAny_lookBehind hoD (by rw [hdD]; exact pastItsLine_dict (Nat.le_trans hcD (by rw [List.length_cons, List.length_nil, sizeLine_eq]; omega))) ?_)
  exact wpAny_pure (hq h' _ ((sb.2 x xs).trans x2) n' fun b o n q => (sb.2 b (Nat.ne_of_lt (Heap.lt_size q))).trans (k2 b o n q))
end
end L2

namespace L2
open PySem PySem.Spec PyProof.Rows PySem.W
/-- an exception of the class at C, with the dict dv, that no frame has seen yet -/
noncomputable def XO (x C : Addr) (dv : Option Addr) (h : Heap) : Prop := ∃ t, h.get? x = some { cls := .ref C, dict := dv, data := .fields #[.ref t, .none, .none, .none, .bool false, .none] }
theorem xo_ok {P : Program} {w : World} {H : Hp} {h : Heap} {x C : Addr} {dv : Option Addr} (o : XO x C dv h) : ObjOk P w H h x (.ext (XO x C dv)) :=
  ⟨o, o.elim fun t e => ⟨_, e⟩, fun h1 h2 ⟨t, e⟩ k => ⟨t, k _ e⟩⟩
/-- what is asked of a class of exceptions, under WharfError's like, that has an __init__ -/
structure XMade (K : Frag) (C W f : Addr) : Prop where
  lk : ∃ nm q N bs sn sub ab col dd k0 k1 k2 k3 k5, K.lookup C = some (excClassObj nm q C N bs (.ref W :: bmVE) true sn sub ab col dd k0 k1 k2 k3 k5 "ValueError.__new__")
  xw : excIn K W bmVE "ValueError.__new__" = true
  fi : findIn K (.ref C) "__init__" = some (some (.ref f))
  ff : ∃ o, K.lookup f = some o ∧ o.cls = .type "function"
  kp : keepIn K (.ref C) = true
theorem XMade.tail {K : Frag} {C W f : Addr} {h : Heap} (M : XMade K C W f) (X : K.In h) : OwnTail h bmVE (.ref W :: bmVE) := by
  obtain ⟨tl, N, nm, qn, bs, hdct, sn, sub, ab, col, dd, k0, k1, k2, k3, k5, mN, hC, hN, hni, T⟩ := (own_obj (mg := fun _ => some (.ref W)) (x := "W") X rfl M.xw).obj
  exact .own hC hN hni .base
section
variable {prog : Program} {w : World} {A : Around} {E : Value → Shared → Prop} {s : Shared} {K : Frag} {x C W f : Addr}
theorem x_init {u : Value} {Q : Value → Shared → Prop} (X : K.In s.heap) (M : XMade K C W f) (o : XO x C none s.heap)
    (hq : ∀ h', (∀ b o, b ≠ x → s.heap.get? b = some o → h'.get? b = some o) → XO x C none h' → Q .none { s with heap := h' }) : wpAny (model prog w) A (call (.builtin "ValueError.__init__") [.ref x, u]) Q E s := by
  obtain ⟨t, oe⟩ := o
  obtain ⟨nm, q, N, bs, sn, sub, ab, col, dd, k0, k1, k2, k3, k5, lk⟩ := M.lk
  obtain ⟨hp, gs, dr, tk, sy⟩ := s
  refine wpAny_call (codeAny_call_builtin PySem.F.excBase_ValueError.init.plain PySem.F.excBase_ValueError.initEntry (wpAny_check_init_subU PySem.F.excBase_ValueError (M.tail X) (X _ _ lk) oe rfl ?_))
  wp_walk
  refine hq _ (fun b o n e => ?_) ⟨hp.objs.size, ?_⟩
  · rw [Heap.get?_update_other _ _ (Ne.symm n)]
    exact Heap.get?_push_of_some _ e
  · rw [Heap.get?_update_self _ (Heap.get?_push_of_some _ oe) rfl]
    rfl
end
section
variable {X : Cx} {x C W f : Addr}
/-- what is asked of the class whose __init__ is called by name -/
structure XCall (K : Frag) (W : Addr) : Prop where
  ga : specialIn K (.ref W) "__getattribute__" = some (some (.builtin "type.__getattribute__"))
  rd : readsIn K W (.type "type") = true
  fc : findCls K (.ref W) (.type "type") "__init__" = some (.val (.builtin "ValueError.__init__"))
noncomputable def tXI (K : Frag) (C W f : Addr) (t : TA) : TE := fun σ H Q => t σ H fun vs H1 => ∃ x y, vs = [.ref x, y] ∧ H1 x = some (.ext (XO x C none)) ∧ Q .non H1
theorem pe_xinit {n : Str} {p apos pos : Pos} {a b : Expr} {t : TA} {pl : Sem Bool} (M : XMade X.K C W f) (L : XCall X.K W) (hg : Gl X n) (hm : X.mg n = some (.ref W)) (ha : PA X [a, b] t) (hdb : (n == ("__debug__" : Str)) = false := by decide)
    (hst : starEach [a, b] X.env = [(false, eval a X.env), (false, eval b X.env)] := by rfl)
    (ht : eval (.Call (.Attribute (.Name n p) "__init__" apos) [a, b] [] pos) X.env = (do
      let ov ← eval (.Name n p) X.env
      standAt apos.atName
      let (g, first) ← holding [ov] (getMethod ov "__init__" pl)
      callWith pos g first (backTo pos (starEach [a, b] X.env)) (backToKw pos (keywordEach [] X.env))) := by rfl) :
    PE X (.Call (.Attribute (.Name n p) "__init__" apos) [a, b] [] pos) (tXI X.K C W f t) := by
  intro pins s σ H Q I h
  refine methodCall_KW (pl := pl) (ld_glob I hg hm ?_ hdb) ht
  refine method_cls I.kIn L.ga (cls_value I.kIn L.rd L.fc (by first | rfl | kernel_rfl) ?_)
  have I1 : Inv X pins σ H { s with toks := s.toks + 1 } := I.tok _
  have hA := ha pos pins _ σ H _ I1 h
  rw [hst] at hA ⊢
  refine Calls.callWith_builtin rfl (Calls.evalArgs_plain ?_)
  refine thn hA fun us s2 ⟨vs, H2, I2, r2, x, y, e, hx, q⟩ => ?_
  subst e
  obtain ⟨u1, u2, rfl, r1, r3⟩ := two_of r2
  cases r1
  refine x_init I2.kIn M (I2.hok x _ hx).1 fun h' kk o => ?_
  refine ⟨.non, H2, ?_, rfl, q⟩
  have := I2.write (x := x) (e := x) (o := .ext (XO x C none)) (t' := s2.toks) (h' := h') (by rw [hx]; exact trivial) (.inl rfl) kk (o.elim fun t e => ⟨_, e⟩) (xo_ok o)
  have eq : upd H2 x (.ext (XO x C none)) = H2 := by
    funext b
    by_cases z : b = x
    · subst z; rw [upd_same, hx]
    · rw [upd_ne z]
  rw [eq] at this
  exact this
theorem Inv.trackO {pins : List (Addr × Obj)} {σ : St} {H H' : Hp} {s s1 : Shared} {a : Addr} {ho : HO} (I0 : Inv X pins σ H s) (hex : ∀ b, b ∉ X.ex) (h0 : s.heap.get? a = none) (I : Inv X pins σ H' s1) (hn : H' a = none) (o : ObjOk X.prog X.w (upd H' a ho) s1.heap a ho) : Inv X pins σ (upd H' a ho) s1 := by
  have ne0 : ∀ b u, s.heap.get? b = some u → b ≠ a := fun b u e z => by rw [z, h0] at e; cases e
  have nes : ∀ b u, X.s₀.heap.get? b = some u → b ≠ a := fun b u e => by
    obtain ⟨u', e'⟩ := I0.base.there b u e (hex b)
    exact ne0 b u' e'
  refine ⟨I.ok, I.os, I.bare, ?_, I.loc, I.cell, ?_, ?_, ?_, ?_, I.len⟩
  · have u0 := I.base
    exact ⟨u0.keep, u0.slot, fun c o e n hx => by rw [upd_ne (nes c o e)]; exact u0.free c o e n hx, u0.there,
      fun c ts e => by have := u0.tups c ts e; rw [upd_ne (ne_of_none this hn)]; exact this,
      fun c o ts e => by have := u0.frzs c o ts e; rw [upd_ne (ne_of_none this hn)]; exact this,
      fun c ps e => by obtain ⟨more, q⟩ := u0.tbls c ps e; exact ⟨more, by rw [upd_ne (ne_of_none q hn)]; exact q⟩⟩
  · obtain ⟨m, ⟨o, _, _, e, _⟩, _⟩ := I0.loc
    rw [upd_ne (ne0 _ _ e)]; exact I.free
  · intro x c e
    obtain ⟨v, o, z, _⟩ := I0.cell x c e
    rw [upd_ne (ne0 _ _ z)]; exact I.freeC x c e
  · intro p hp
    obtain ⟨e, n, ne, nf, d⟩ := I.pin p hp
    exact ⟨e, by rw [upd_ne (ne0 _ _ (I0.pin p hp).1)]; exact n, ne, nf, d⟩
  · intro c u q
    by_cases hc : c = a
    · subst hc
      rw [upd_same] at q; cases q
      exact o
    · rw [upd_ne hc] at q
      exact (I.hok c u q).stay (fun _ _ _ r => r) (fun c' r => by rw [upd_ne (ne_of_none r hn)]; exact r) fun c' ts r => by rw [upd_ne (ne_of_none r hn)]; exact r
/-- self.name = value, of an exception that has no dict yet -/
noncomputable def tXS (C : Addr) (name : Str) (ta tv : TE) : TS := fun D σ H => tv σ H fun y H1 => ta σ H1 fun v H2 => ∃ x, v = .ref x ∧ H2 x = some (.ext (XO x C none)) ∧
  ∀ dx, H2 dx = none → dx ≠ x → D.nx σ (upd (upd H2 x (.ext (XO x C (some dx)))) dx (.xd [(name, y)]))
theorem ps_xset {o value : Expr} {name : Str} {ta tv : TE} {pos pos' : Pos} (hex : ∀ b, b ∉ X.ex) (S : XSet X.K C W name) (ha : PE X o ta) (hv : PE X value tv) (hs : swapsWith value (some (.Attribute o name pos')) pos.line X.env = pure false := by rfl) :
    PS X (.Assign [.Attribute o name pos'] value pos) (tXS C name ta tv) := by
  intro pins s σ H D I h
  refine plainObj_wpAny_Assign_Attribute (thn (hv pins s σ H _ I h) fun u s1 ⟨y, H1, I1, ry, q⟩ => thn (ha pins s1 σ H1 _ I1 q) fun ov s2 ⟨v, H2, I2, rx, x, ex, hx, q2⟩ => ?_) hs
  subst ex
  obtain rfl : ov = Value.ref x := rx
  obtain ⟨t, oe⟩ := (I2.hok x _ hx).1
  refine x_store I2.kIn S oe fun h' tk o' n' kk => ?_
  have xs : s2.heap.objs.size ≠ x := Nat.ne_of_gt (Heap.lt_size oe)
  have I3 := I2.write (x := x) (e := x) (o := .ext (XO x C (some s2.heap.objs.size))) (t' := tk) (h' := h') (by rw [hx]; exact trivial) (.inl rfl) kk ⟨_, o'⟩ (xo_ok ⟨t, o'⟩)
  refine ⟨σ, _, ?_, q2 s2.heap.objs.size I2.fresh xs⟩
  refine Inv.trackO I2 hex (Heap.get?_none_of_le (Nat.le_refl _)) I3 (by rw [upd_ne xs]; exact I2.fresh) ⟨_, n', fun g => ?_⟩
  show RelO ([(name, y)].lookup g) (if g = name then some u else none)
  by_cases z : g = name
  · subst z
    rw [if_pos rfl, List.lookup_cons, show (g == g) = true by simp]
    exact ry
  · have : (g == name) = false := by simpa using z
    rw [if_neg z, List.lookup_cons, this]
    exact trivial
end
end L2

namespace PySem
open Sem (wp)
/-! ### an exception leaves a frame: its dict stays -/
section
variable {M : Model} {A : Around} {E : Value → Shared → Prop} {s : Shared} {bs : Heap} {en : Env} {ou : List Env} {L e : Addr} {ob : Obj} {vs : Array Value} {a0 : Value} {Q : Unit → Shared → Prop}
theorem entry_dict {head : Value} {nx : Bool} (fr : A.frames = some (en :: ou)) (ff : s.heap.FunFrames bs (en :: ou)) (ef : en.frame = some L) (oe : s.heap.get? e = some ob) (kb : bs.StaysIn s.heap) (ne : bs.get? e = none)
    (od : ob.data = .fields vs) (z1 : 1 < vs.size) (z0 : vs[0]? = some a0)
    (h : ∀ h', Heap.LeftW bs (en :: ou) e ob.cls a0 s.heap h' → (∃ o', h'.get? e = some o' ∧ o'.dict = ob.dict) → Q () { s with heap := h' }) :
    wpAny M A (do
      let a ← frameOf en
      let pl ← entryPlaceOf L nx
      let b ← EntryCells.newEntry head a .none (rawInt L) .none pl
      setField (.ref e) 1 b) (fun _ s' => wpAny M A (setFlight (.ref e) none) Q E s') E s := by
  have nf : e ∉ (en :: ou).filterMap (·.frame) := fun m => by
    obtain ⟨_, o, q, n⟩ := ff.mem m
    rw [oe] at q
    cases q
    exact n vs od
  refine wpAny_bind (wpAny_frameOf_fun fr ff ef fun g gs => ?_)
  refine wpAny_bind (wpAny_entryPlaceOf fun pl hp => ?_)
  unfold EntryCells.newEntry newFields
  refine wpAny_bind (wpAny_newObj_type ?_ (hp.sizeOk5 _ _ _ _ _))
  have ge : g.get? e = some ob := (gs.2.1 e nf).trans oe
  have gb : bs.StaysIn g := fun b o q => (gs.2.1 b fun m => by
    rw [(ff.mem m).1] at q
    cases q).trans (kb b o q)
  obtain ⟨tb, etb⟩ : ∃ tb : List Value, [head, .ref L, .none, rawInt L, .none] ++ (if pl.isEmpty then List.replicate 6 Value.none else pl) = tb := ⟨_, rfl⟩
  have l5 : 3 < tb.length ∧ tb[3]? = some (rawInt L) := by
    rw [← etb]
    exact ⟨by simp, by simp⟩
  rw [etb]
  have ge2 := Heap.get?_push_of_some (h := g) { cls := .type "traceback", dict := none, data := .fields tb.toArray } ge
  refine wpAny_setField ge2 od z1 ?_
  have te : g.objs.size ≠ e := Nat.ne_of_gt (Heap.lt_size ge)
  have d3 := Obj.data_mapFields od (·.setIfInBounds 1 (Value.ref g.objs.size))
  have ge3 := Heap.get?_update_self (Obj.mapFields (·.setIfInBounds 1 (Value.ref g.objs.size))) ge2 (Obj.isFreed_of_fields d3)
  have gt3 := (Heap.get?_update_other (g.push { cls := .type "traceback", dict := none, data := .fields tb.toArray })
    (Obj.mapFields (·.setIfInBounds 1 (Value.ref g.objs.size))) te.symm).trans
    (Heap.get?_push_size g rfl)
  unfold setFlight
  refine wpAny_bind (wpAny_field ge3 d3 (x := .ref g.objs.size) (by simp [z1]) ?_)
  rw [if_pos (show (Value.ref g.objs.size != Value.none) = true by simp)]
  refine wpAny_setField gt3 rfl (by simpa using l5.1) (h _ ?_ ?_)
  all_goals
    obtain ⟨g3, eg3⟩ : ∃ g3, ((g.push { cls := .type "traceback", dict := none, data := .fields tb.toArray }).update e (Obj.mapFields (·.setIfInBounds 1 (Value.ref g.objs.size)))) = g3 := ⟨_, rfl⟩
    rw [eg3] at ge3 gt3 ⊢
  · have kp : ∀ b o, b ≠ e → g.get? b = some o → (g3.update g.objs.size (Obj.mapFields (·.setIfInBounds 3 ((none : Option Addr).elim Value.none fun f => rawInt f)))).get? b = some o := fun b o n q => by
      rw [Heap.get?_update_other _ _ (Nat.ne_of_gt (Heap.lt_size q)), ← eg3, Heap.get?_update_other _ _ n.symm]
      exact Heap.get?_push_of_some _ q
    have nr : ∀ b o, s.heap.get? b = some o → (∀ ws, o.data ≠ .fields ws) → b ≠ e := fun b o q n z => by
      rw [z, oe] at q
      cases q
      exact n vs od
    refine ⟨fun b o q => kp b o (fun z => by rw [z, ne] at q; cases q) (gb b o q), ff.of_keeps fun b o q n => ?_, ?_, fun b o q n => ?_⟩
    · obtain ⟨sl, z⟩ := gs.2.2 b o q
      exact ⟨_, kp b _ (nr b o q n) z, rfl⟩
    · refine ⟨_, _, g.objs.size, _, _, ?_, ⟨Obj.cls_mapFields _ _, ?_⟩, d3, by simp [z1], gb.fresh, te, Heap.get?_update_self _ gt3 (Obj.isFreed_of_fields (Obj.data_mapFields rfl _)), Obj.data_mapFields rfl _, ?_⟩
      · rw [Heap.get?_update_other _ _ te]
        exact ge3
      · rw [Array.getElem?_setIfInBounds_ne (by decide)]
        exact z0
      · have := l5.1
        simp [this]
    · obtain ⟨sl, z⟩ := gs.2.2 b o q
      exact ⟨sl, kp b _ (nr b o q n) z⟩
  · refine ⟨_, (Heap.get?_update_other _ _ te).trans ge3, ?_⟩
    cases ob with
    | mk c d dt sl => cases dt <;> first | rfl | cases od
/-- a frame is left for the first time -/
theorem leave1_dict (fr : A.frames = some (en :: ou)) (ff : s.heap.FunFrames bs (en :: ou)) (ef : en.frame = some L) (oe : s.heap.get? e = some ob) (kb : bs.StaysIn s.heap) (ne : bs.get? e = none)
    (od : ob.data = .fields vs) (z1 : vs[1]? = some .none) (z0 : vs[0]? = some a0)
    (h : ∀ h', Heap.LeftW bs (en :: ou) e ob.cls a0 s.heap h' → (∃ o', h'.get? e = some o' ∧ o'.dict = ob.dict) → Q () { s with heap := h' }) : wpAny M A (leaving en (.ref e)) Q E s := by
  unfold leaving noteFrame
  simp only [ef]
  refine wpAny_bind (wpAny_bind (wpAny_field oe od z1 ?_))
  rw [if_neg (by decide)]
  exact entry_dict fr ff ef oe kb ne od (Array.getElem?_eq_some_iff.mp z1).1 z0 h
theorem note_entry_dict {head : Value} {nx : Bool} (fr : A.frames = some (en :: ou)) (ff : s.heap.FunFrames bs (en :: ou)) (ef : en.frame = some L) (oe : s.heap.get? e = some ob) (kb : bs.StaysIn s.heap) (ne : bs.get? e = none)
    (od : ob.data = .fields vs) (z1 : 1 < vs.size) (z0 : vs[0]? = some a0)
    (h : ∀ h', Heap.NotedW bs (en :: ou) e ob.cls a0 (rawInt L) s.heap h' → (∃ o', h'.get? e = some o' ∧ o'.dict = ob.dict) → Q () { s with heap := h' }) :
    wpAny M A (do
      let a ← frameOf en
      let pl ← entryPlaceOf L nx
      let b ← EntryCells.newEntry head a .none (rawInt L) .none pl
      setField (.ref e) 1 b) Q E s := by
  have nf : e ∉ (en :: ou).filterMap (·.frame) := fun m => by
    obtain ⟨_, o, q, n⟩ := ff.mem m
    rw [oe] at q
    cases q
    exact n vs od
  refine wpAny_bind (wpAny_frameOf_fun fr ff ef fun g gs => ?_)
  refine wpAny_bind (wpAny_entryPlaceOf fun pl hp => ?_)
  unfold EntryCells.newEntry newFields
  refine wpAny_bind (wpAny_newObj_type ?_ (hp.sizeOk5 _ _ _ _ _))
  have ge : g.get? e = some ob := (gs.2.1 e nf).trans oe
  have gb : bs.StaysIn g := fun b o q => (gs.2.1 b fun m => by
    rw [(ff.mem m).1] at q
    cases q).trans (kb b o q)
  obtain ⟨tb, etb⟩ : ∃ tb : List Value, [head, .ref L, .none, rawInt L, .none] ++ (if pl.isEmpty then List.replicate 6 Value.none else pl) = tb := ⟨_, rfl⟩
  have l5 : 3 < tb.length ∧ tb[3]? = some (rawInt L) := by
    rw [← etb]
    exact ⟨by simp, by simp⟩
  rw [etb]
  have ge2 := Heap.get?_push_of_some (h := g) { cls := .type "traceback", dict := none, data := .fields tb.toArray } ge
  have te : g.objs.size ≠ e := Nat.ne_of_gt (Heap.lt_size ge)
  have d3 := Obj.data_mapFields od (·.setIfInBounds 1 (Value.ref g.objs.size))
  have ge3 := Heap.get?_update_self (Obj.mapFields (·.setIfInBounds 1 (Value.ref g.objs.size))) ge2 (Obj.isFreed_of_fields d3)
  have gt3 := (Heap.get?_update_other (g.push { cls := .type "traceback", dict := none, data := .fields tb.toArray })
    (Obj.mapFields (·.setIfInBounds 1 (Value.ref g.objs.size))) te.symm).trans
    (Heap.get?_push_size g rfl)
  refine wpAny_setField ge2 od z1 (h _ ?_ ?_)
  · have kp : ∀ b o, b ≠ e → g.get? b = some o → ((g.push { cls := .type "traceback", dict := none, data := .fields tb.toArray }).update e (Obj.mapFields (·.setIfInBounds 1 (Value.ref g.objs.size)))).get? b = some o := fun b o n q => by
      rw [Heap.get?_update_other _ _ n.symm]
      exact Heap.get?_push_of_some _ q
    have nr : ∀ b o, s.heap.get? b = some o → (∀ ws, o.data ≠ .fields ws) → b ≠ e := fun b o q n z => by
      rw [z, oe] at q
      cases q
      exact n vs od
    refine ⟨fun b o q => kp b o (fun z => by rw [z, ne] at q; cases q) (gb b o q), ff.of_keeps fun b o q n => ?_, ?_, fun b o q n => ?_⟩
    · obtain ⟨sl, z⟩ := gs.2.2 b o q
      exact ⟨_, kp b _ (nr b o q n) z, rfl⟩
    · refine ⟨_, _, g.objs.size, _, _, ge3, ⟨Obj.cls_mapFields _ _, ?_⟩, d3, by simp [z1], gb.fresh, te, gt3, rfl, by simpa using l5.2⟩
      rw [Array.getElem?_setIfInBounds_ne (by decide)]
      exact z0
    · obtain ⟨sl, z⟩ := gs.2.2 b o q
      exact ⟨sl, kp b _ (nr b o q n) z⟩
  · refine ⟨_, ge3, ?_⟩
    cases ob with
    | mk c d dt sl => cases dt <;> first | rfl | cases od
/-- a frame looks at an exception that flies -/
theorem look_dict {cls : Value} {dv : Option Addr} (fr : A.frames = some (en :: ou)) (ef : en.frame = some L) (fl : Heap.FlyingW bs (en :: ou) e cls a0 s.heap) (dd : ∃ o', s.heap.get? e = some o' ∧ o'.dict = dv)
    (h : ∀ h', Heap.HeldW bs (en :: ou) e cls a0 L h' → (∃ o', h'.get? e = some o' ∧ o'.dict = dv) → s.heap.UpToSlots h' → Q () { s with heap := h' }) : wpAny M A (noteFrame (.ref e) en) Q E s := by
  obtain ⟨kb, ne, ff, oe, ws, T, oT, ts, he, ⟨hc, z0⟩, od, z1, nT, Te, hT, dT, z3⟩ := fl
  obtain ⟨o', ho', hdv⟩ := dd
  rw [he] at ho'
  cases ho'
  unfold noteFrame
  simp only [ef]
  refine wpAny_bind (wpAny_field he od z1 ?_)
  rw [if_pos (show (Value.ref T != Value.none) = true by simp)]
  refine wpAny_bind (wpAny_field hT dT z3 ?_)
  rw [if_neg (show ¬ ((Value.none == rawInt L) = true) by simp [rawInt])]
  refine wpAny_bind (wpAny_setField hT dT (Array.getElem?_eq_some_iff.mp z3).1 ?_)
  have ot : ∀ b, b ≠ T → (s.heap.update T (Obj.mapFields (·.setIfInBounds 3 Value.none))).get? b = s.heap.get? b := fun b n => Heap.get?_update_other _ _ n.symm
  have nr : ∀ b o, s.heap.get? b = some o → (∀ ws, o.data ≠ .fields ws) → b ≠ T := fun b o q n z => by
    rw [z, hT] at q
    cases q
    exact n ts dT
  refine note_entry_dict fr (ff.of_keeps fun b o q n => ⟨o, (ot b (nr b o q n)).trans q, rfl⟩) ef ((ot e Te.symm).trans he) (fun b o q => (ot b fun z => by rw [z, nT] at q; cases q).trans (kb b o q)) ne od (Array.getElem?_eq_some_iff.mp z1).1 z0 fun h' nt d' => ?_
  obtain ⟨k1, k2, k3, k4⟩ := nt
  rw [hc] at k3
  exact h h' ⟨k1, ne, k2, k3⟩ (d'.imp fun o q => ⟨q.1, q.2.trans hdv⟩) fun b o q n => k4 b o ((ot b (nr b o q n)).trans q) n
/-- its flight is over -/
theorem flight_dict {l : List Env} {cls fv : Value} {dv : Option Addr} (kb : bs.StaysIn s.heap) (ne : bs.get? e = none) (ff : s.heap.FunFrames bs l) (tr : s.heap.TracedAtW bs e cls a0 fv) (dd : ∃ o', s.heap.get? e = some o' ∧ o'.dict = dv)
    (h : ∀ h', Heap.FlyingW bs l e cls a0 h' → (∃ o', h'.get? e = some o' ∧ o'.dict = dv) → s.heap.UpToSlots h' → Q () { s with heap := h' }) : wpAny M A (setFlight (.ref e) none) Q E s := by
  obtain ⟨oe, ws, T, oT, ts, he, hc, od, z1, nT, Te, hT, dT, z3⟩ := tr
  obtain ⟨o', ho', hdv⟩ := dd
  have s3 := (Array.getElem?_eq_some_iff.mp z3).1
  have ot : ∀ b, b ≠ T → (s.heap.update T (Obj.mapFields (·.setIfInBounds 3 ((none : Option Addr).elim Value.none fun f => rawInt f)))).get? b = s.heap.get? b := fun b n => Heap.get?_update_other _ _ n.symm
  have nr : ∀ b o, s.heap.get? b = some o → (∀ ws, o.data ≠ .fields ws) → b ≠ T := fun b o q n z => by
    rw [z, hT] at q
    cases q
    exact n ts dT
  unfold setFlight
  refine wpAny_bind (wpAny_field he od z1 ?_)
  rw [if_pos (show (Value.ref T != Value.none) = true by simp)]
  refine wpAny_setField hT dT s3 (h _ ⟨fun b o q => (ot b fun z => by rw [z, nT] at q; cases q).trans (kb b o q), ne, ff.of_keeps fun b o q n => ⟨o, (ot b (nr b o q n)).trans q, rfl⟩, ?_⟩ ⟨o', (ot e Te.symm).trans ho', hdv⟩ fun b o q n => ⟨o.slots, (ot b (nr b o q n)).trans q⟩)
  exact ⟨oe, ws, T, _, _, (ot e Te.symm).trans he, hc, od, z1, nT, Te, Heap.get?_update_self _ hT (Obj.isFreed_of_fields (Obj.data_mapFields dT _)), Obj.data_mapFields dT _, by simp [s3]⟩
end
end PySem

namespace L2
open PySem PySem.Spec PyProof.Rows
/-- an exception that has left the code, with its dict -/
noncomputable def CXD (P : Program) (w : World) : CXT := fun outer H s E e s' => ∃ a cls a0 dv H' B, e = Value.ref a ∧ Fly P w outer H H' s s' a cls a0 B ∧ (∃ o', s'.heap.get? a = some o' ∧ o'.dict = dv) ∧ E cls dv H'
noncomputable def delH (H : Hp) (a : Addr) : Hp := fun b => if b = a then none else H b
theorem delH_ne {H : Hp} {a b : Addr} (h : b ≠ a) : delH H a b = H b := by unfold delH; rw [if_neg h]
theorem delH_self {H : Hp} {a : Addr} : delH H a a = none := by unfold delH; rw [if_pos rfl]
theorem Inv.drop {X : Cx} {pins : List (Addr × Obj)} {σ : St} {H : Hp} {s : Shared} {a : Addr} {φ : Heap → Prop} (I : Inv X pins σ H s) (h : H a = some (.ext φ)) : Inv X pins σ (delH H a) s := by
  have nn : ∀ b, H b = none → delH H a b = none := fun b e => by
    by_cases z : b = a
    · subst z; exact delH_self
    · rw [delH_ne z]; exact e
  have ss : ∀ b o, H b = some o → o ≠ .ext φ → delH H a b = some o := fun b o e n => by
    rw [delH_ne fun z => ?_]
    · exact e
    · subst z; rw [h] at e; exact n (Option.some.inj e).symm
  refine ⟨I.ok, I.os, I.bare, ?_, I.loc, I.cell, nn _ I.free, fun x c e => nn _ (I.freeC x c e), fun p hp => ?_, fun b u q => ?_, I.len⟩
  · have u := I.base
    exact ⟨u.keep, u.slot, fun b o e n hx => nn _ (u.free b o e n hx), u.there, fun b xs e => ss _ _ (u.tups b xs e) (by simp), fun b o v e => ss _ _ (u.frzs b o v e) (by simp), fun b ps e => by
      obtain ⟨more, q⟩ := u.tbls b ps e
      exact ⟨more, ss _ _ q (by simp)⟩⟩
  · obtain ⟨e, n, ne, nf, d⟩ := I.pin p hp
    exact ⟨e, nn _ n, ne, nf, d⟩
  · by_cases z : b = a
    · subst z; rw [delH_self] at q; cases q
    · rw [delH_ne z] at q
      exact (I.hok b u q).stay (fun _ _ _ r => r) (fun c r => ss _ _ r (by simp)) fun c ts r => ss _ _ r (by simp)
section
variable {P : Program} {w : World} {K : PySem.W.Frag} {mg : Str → Option Value} {base : Heap} {N : List Str} {qual : Str} {scope : Scope} {f : Addr} {cd : Value} {A : Around} {outer : List Env} {s : Shared} {H : Hp} {E : XK}
noncomputable abbrev cxD (P : Program) (w : World) (K : PySem.W.Frag) (mg : Str → Option Value) (base : Heap) (N : List Str) (qual : Str) (scope : Scope) (f : Addr) (cd : Value) (A : Around) (outer : List Env) (s : Shared) (H : Hp) (E : XK) : Cx := cxOf (CXD P w) P w K mg base N qual scope f cd A outer s H E
theorem stk_neD {pins : List (Addr × Obj)} {σ : St} {H1 : Hp} {s1 : Shared} (I : Inv (cxD P w K mg base N qual scope f cd A outer s H E) pins σ H1 s1) {b : Addr} {o : Obj} (e : s.heap.get? b = some o) (n : b ∉ frs outer) : b ∉ frs (cxD P w K mg base N qual scope f cd A outer s H E).stack := fun hb => by
  rcases List.mem_cons.mp (I.stkSub b hb) with z | z
  · have h1 : b < s.heap.objs.size := Heap.lt_size e
    have h2 : s.heap.objs.size ≤ (cxD P w K mg base N qual scope f cd A outer s H E).env.locals := I.ok.above
    rw [← z] at h2
    exact absurd (Nat.lt_of_lt_of_le h1 h2) (Nat.lt_irrefl _)
  · exact n z
/-- a new exception leaves a def's body -/
theorem raiseD {pins : List (Addr × Obj)} {σ : St} {H1 : Hp} {s1 : Shared} {hx : Heap} {e C t : Addr} {dv : Option Addr} (I : Inv (cxD P w K mg base N qual scope f cd A outer s H E) pins σ H1 s1)
    (hk : ∀ b o, b ≠ e → s1.heap.get? b = some o → hx.get? b = some o) (he1 : ∀ o, s1.heap.get? e = some o → ∃ vs, o.data = .fields vs) (new : s.heap.get? e = none) (hH : H1 e = none)
    (oe : hx.get? e = some { cls := .ref C, dict := dv, data := .fields #[.ref t, .none, .none, .none, .bool false, .none] }) (hE : E (.ref C) dv H1) :
    (cxD P w K mg base N qual scope f cd A outer s H E).xe (.ref e) { s1 with heap := hx } := by
  have hin : ∀ en ∈ (cxD P w K mg base N qual scope f cd A outer s H E).stack, ∀ b, en.frame = some b → b ∈ e :: frs (cxD P w K mg base N qual scope f cd A outer s H E).stack := fun en he b hb => List.mem_cons_of_mem _ (List.mem_filterMap.mpr ⟨en, he, hb⟩)
  have ff := PySem.W.funFrames_hide I.stack hin
  have nee : ∀ b o, s1.heap.get? b = some o → (∀ vs, o.data ≠ .fields vs) → b ≠ e := fun b o q n z => by
    subst z
    obtain ⟨vs, d⟩ := he1 o q
    exact n vs d
  have hid : (PySem.W.hideAll s1.heap (e :: frs (cxD P w K mg base N qual scope f cd A outer s H E).stack)).get? e = none := PySem.W.hideAll_none _ List.mem_cons_self
  have kb : (PySem.W.hideAll s1.heap (e :: frs (cxD P w K mg base N qual scope f cd A outer s H E).stack)).StaysIn hx := fun b o q => hk b o (fun z => by rw [z, hid] at q; cases q) (PySem.W.of_hideAll _ q)
  show wpAny (model P w) _ (leaving _ (.ref e)) _ _ _
  refine leave1_dict (bs := PySem.W.hideAll s1.heap (e :: frs (cxD P w K mg base N qual scope f cd A outer s H E).stack)) (a0 := .ref t) (s := { s1 with heap := hx }) I.ok.frames (ff.of_keeps fun b o q n => ⟨o, hk b o (nee b o q n) q, rfl⟩) rfl oe kb hid rfl rfl rfl fun h2 lf dd => ?_
  obtain ⟨k1, ⟨_, _, k2⟩, k3, k4⟩ := lf
  have noex : ∀ b : Addr, b ∉ (cxD P w K mg base N qual scope f cd A outer s H E).ex := fun b z => absurd (show b ∈ ([] : List Addr) from z) (by simp)
  have nse : ∀ b o, s.heap.get? b = some o → b ≠ e := fun b o q z => by rw [z, new] at q; cases q
  have out : ∀ b o, s.heap.get? b = some o → b ∉ frs outer → b ∉ e :: frs (cxD P w K mg base N qual scope f cd A outer s H E).stack := fun b o q n m => by
    rcases List.mem_cons.mp m with z | z
    · exact nse b o q z
    · exact stk_neD I q n z
  refine ⟨e, .ref C, .ref t, dv, H1, _, rfl, ⟨I.os, I.bare, ⟨k1, hid, k2, k3⟩, fun b u q => ?_, fun b o q n hb => ?_, fun b o q hb => ?_, fun b o q hb => ?_, fun b o q n => I.base.free b o q n (noex b), I.base.tups, I.base.frzs, I.base.tbls⟩, dd, hE⟩
  · have ne : ∀ c v, H1 c = some v → c ∉ e :: frs (cxD P w K mg base N qual scope f cd A outer s H E).stack := fun c v z m => by
      rcases List.mem_cons.mp m with m | m
      · rw [m, hH] at z; cases z
      · rw [I.stkFree c m] at z; cases z
    refine (I.hok b u q).stay (fun c v hc r => PySem.W.hideAll_get _ r ?_) (fun _ r => r) fun _ _ r => r
    rcases hc with rfl | hc
    · exact ne c u q
    · exact ne c _ hc
  · exact PySem.W.hideAll_get _ (I.base.keep b o q n hb (noex b)) (out b o q hb)
  · obtain ⟨o', z⟩ := I.base.there b o q (noex b)
    exact ⟨o', PySem.W.hideAll_get _ z (out b o q hb)⟩
  · obtain ⟨sl, z⟩ := I.base.slot b o q (I.ok.frf b hb) hb (noex b)
    obtain ⟨_, o', ho', hnf⟩ := I.ok.funs.mem hb
    have ho2 : s.heap.get? b = some o' := ho'
    rw [q] at ho2
    cases ho2
    obtain ⟨sl', z'⟩ := k4 b _ (hk b _ (nse b o q) z) hnf
    exact ⟨sl', z'⟩
end
/-! ### raise C('..') and raise C(v) with an __init__ -/
section
variable {X : Cx}
noncomputable def RaiseD (X : Cx) (E : XK) : Prop := ∀ (pins : List (Addr × Obj)) (σ : St) (H0 H1 : Hp) (s0 s1 : Shared) (hx : Heap) (e C t : Addr) (dv : Option Addr), Inv X pins σ H0 s0 → s0.heap.get? e = none → Inv X pins σ H1 s1 → (∀ b o, b ≠ e → s1.heap.get? b = some o → hx.get? b = some o) →
  (∀ o, s1.heap.get? e = some o → ∃ vs, o.data = .fields vs) → H1 e = none → hx.get? e = some { cls := .ref C, dict := dv, data := .fields #[.ref t, .none, .none, .none, .bool false, .none] } → E (.ref C) dv H1 → X.xe (.ref e) { s1 with heap := hx }
/-- what an __init__ that keeps one value does -/
noncomputable def spInit (C : Addr) (name : Str) : Sp := fun vs H Q _ => ∃ (x : Addr) (v : V), vs = [.ref x, v] ∧ H x = some (.ext (XO x C none)) ∧ ∀ dx, H dx = none → dx ≠ x → Q .non (upd (upd H x (.ext (XO x C (some dx)))) dx (.xd [(name, v)]))
noncomputable def tRaiseI (C : Addr) (name : Str) (E : XK) (t : TA) : TS := fun _ σ H => t σ H fun vs H1 => ∃ v, vs = [v] ∧ ∀ dx, H1 dx = none → E (.ref C) (some dx) (upd H1 dx (.xd [(name, v)]))
theorem ps_raiseI {x name : Str} {C W f : Addr} {fd : FuncData} {k : Nat} {ps : List Str} {e : Expr} {t : TA} {E : XK} {np cpos pos : Pos} (hcalm : X.calm = true) (RO : RaiseD X E) (M : XMade X.K C W f) (G : FnOk X.prog X.w X.K X.mg X.base CX0 k f fd ps (spInit C name)) (hr : Room (k + 1) X.A)
    (hb : Binds X.K fd ps []) (hg : Gl X x) (hm : X.mg x = some (.ref C)) (ha : PA X [e] t)
    (hdb : (x == ("__debug__" : Str)) = false := by decide) (he : starEach [e] X.env = [(false, eval e X.env)] := by rfl) : PS X (.Raise (some (.Call (.Name x np) [e] [] cpos)) none pos) (tRaiseI C name E t) := by
  intro pins s σ H D I h
  obtain ⟨nm, q, N, bs, sn, sub, ab, col, dd, k0, k1, k2, k3, k5, lk⟩ := M.lk
  obtain ⟨of, lf, cf⟩ := M.ff
  have oC : ∀ {H' : Hp} {s' : Shared}, Inv X pins σ H' s' → s'.heap.get? C = some (excClassObj nm q C N bs (.ref W :: bmVE) true sn sub ab col dd k0 k1 k2 k3 k5 "ValueError.__new__") := fun J => J.kIn _ _ lk
  rw [arm_exec_Raise]
  refine wpAny_bind (wpAny_standAt (raiseStmt_own (kC := C) (cn := nm) (cq := q) (kN := N) (bas := bs) (tl := .ref W :: bmVE) (hd := true) (sns := sn) (subs := sub) (abb := ab) (coll := col) (dic := dd) (j0 := k0) (j1 := k1) (j2 := k2) (j3 := k3) (j5 := k5) (newI := "ValueError.__new__") (by simp) (I.ok.hd hcalm) ?_))
  refine wpAny_bind (wpAny_mono (wpAny_Call_Name_kw (ld_glob I hg hm (PySem.W.callWith_K (h₀ := X.base) (Q := fun v s1 => ∃ e t dv, v = .ref e ∧ s1.heap.get? C = some (excClassObj nm q C N bs (.ref W :: bmVE) true sn sub ab col dd k0 k1 k2 k3 k5 "ValueError.__new__") ∧ s1.heap.get? e = some { cls := .ref C, dict := dv, data := .fields #[.ref t, .none, .none, .none, .bool false, .none] } ∧ X.xe (.ref e) s1) I.ok.mod.kin M.kp (thn (ha cpos pins s σ H _ I h) fun us s1 ⟨vs, H1, I1, r, v, ev, hE⟩ => ⟨I1.kIn, ?_⟩) (by rw [he]; rfl) rfl) hdb)) (fun v s3 z => wpAny_bind (wpAny_standAt (wpAny_pure z))) fun _ _ z => z)
  subst ev
  obtain ⟨u, rfl, ru⟩ := r.one
  obtain ⟨hp, gs, dr, tk, sy⟩ := s1
  refine call_initU (rest := [u]) PySem.F.excBase_ValueError (by decide +kernel) PySem.F.excBase_ValueError (M.tail I1.kIn) (oC I1) I1.kIn M.fi (I1.kIn _ _ lf) cf (fun h' kp oe => ?_) (show 1 ≤ sizeLine by decide)
  obtain ⟨a, ea⟩ : ∃ a, hp.objs.size + 1 = a := ⟨_, rfl⟩
  rw [ea] at oe ⊢
  have la : hp.objs.size ≤ a := by rw [← ea]; exact Nat.le_succ _
  have na : H1 a = none := I1.hok.fresh la
  have ga : hp.get? a = none := Heap.get?_none_of_le la
  have I2 : Inv X pins σ (upd H1 a (.ext (XO a C none))) ⟨h', gs, dr, tk, sy⟩ := I1.laid (t' := tk) (h' := h') kp la (xo_ok ⟨_, oe⟩)
  have sp : spInit C name [.ref a, v] (upd H1 a (.ext (XO a C none))) (fun v' H' => v' = .non ∧ ∃ dx, H1 dx = none ∧ dx ≠ a ∧ H' = upd (upd (upd H1 a (.ext (XO a C none))) a (.ext (XO a C (some dx)))) dx (.xd [(name, v)])) E0 :=
    ⟨a, v, rfl, upd_same, fun dx hn hne => ⟨rfl, dx, by rwa [upd_ne hne] at hn, hne, rfl⟩⟩
  have r2 : Vals [V.ref a, v] [Value.ref a, u] := .cons rfl (.cons ru .nil)
  have hl : ([Value.ref a, u] ++ []).length = ps.length := by
    have := G.len _ _ _ _ sp
    simpa using this
  refine wpAny_call (codeAny_mono (G.run _ X.stack _ _ ⟨[Value.ref a, u], []⟩ [Value.ref a, u] _ _ E0 (hr.make C [u] []) (I2.env0.make C [u] []) (hb _ [Value.ref a, u] I2.kIn hl) r2 sp) fun r s' z => ?_)
  cases r with
  | error e => exact False.elim z
  | ok fl =>
    cases fl with
    | ret u' =>
      obtain ⟨v', H', I3, rv, ev, dx, hn, hne, eH⟩ := I2.after z
      subst ev
      obtain rfl : u' = Value.none := rv
      have hHa : H' a = some (.ext (XO a C (some dx))) := by rw [eH, upd_ne (Ne.symm hne), upd_same]
      obtain ⟨t2, o2⟩ := (I3.hok a _ hHa).1
      have eD : delH H' a = upd H1 dx (.xd [(name, v)]) := by
        funext b
        by_cases zb : b = a
        · rw [zb, delH_self, upd_ne (Ne.symm hne), na]
        · rw [delH_ne zb, eH]
          by_cases zd : b = dx
          · rw [zd, upd_same, upd_same]
          · rw [upd_ne zd, upd_ne zd, upd_ne zb, upd_ne zb]
      refine ⟨rfl, a, t2, some dx, rfl, oC I3, o2, ?_⟩
      have := RO pins σ H1 (delH H' a) _ s' s'.heap a C t2 (some dx) I1 ga (I3.drop hHa) (fun b o _ k => k) (fun o k => by rw [o2] at k; cases k; exact ⟨_, rfl⟩) delH_self o2 (by rw [eD]; exact hE dx hn)
      exact this
    | next => exact False.elim z
    | brk => exact False.elim z
    | cont => exact False.elim z
end
theorem raiseDok {P : Program} {w : World} {K : PySem.W.Frag} {mg : Str → Option Value} {base : Heap} {N : List Str} {qual : Str} {scope : Scope} {f : Addr} {cd : Value} {A : Around} {outer : List Env} {s : Shared} {H : Hp} {E : XK} :
    RaiseD (cxD P w K mg base N qual scope f cd A outer s H E) E := fun pins σ H0 H1 s0 s1 hx e C t dv I0 g0 I hk he1 hH oe hE => by
  refine raiseD I hk he1 ?_ hH oe hE
  cases q : s.heap.get? e with
  | none => rfl
  | some o =>
    obtain ⟨o', z⟩ := I0.base.there e o q (fun z => absurd (show e ∈ ([] : List Addr) from z) (by simp))
    rw [g0] at z; cases z
/-- a def of the text that may raise -/
theorem Fun.okD {P : Program} {w : World} {K : PySem.W.Frag} {mg : Str → Option Value} {base : Heap} {x qual : Str} {st : Stmt} {f : Addr} {fd : FuncData} {N ps : List Str} {k : Nat} {sp : Sp} (F : Fun K x qual st f fd) (S : FnScope N ps (defScope st)) (len : ∀ vs H Q E, sp vs H Q E → vs.length = ps.length)
    (hbody : ∀ (cdv : Value) (A : Around) (outer : List Env) (s : Shared) (H : Hp) (vs : List V) (Q : VK) (E : XK), Room k (A.deeper (envOfC qual (defScope st) s.heap.objs.size f cdv)) → sp vs H Q E →
      ∃ t, PSs (cxD P w K mg base N qual (defScope st) f cdv A outer s H E) (defBody st) t ∧ t { nx := fun _ H' => Q .non H', rt := Q } (start N vs) H) : FnOk P w K mg base (CXD P w) (k + 1) f fd ps sp := by
  obtain ⟨oc, od, kV, doc, pm, an, cdv, ct, osl, rfl, lk, hcd⟩ := F.ex
  exact fn_of lk hcd S len fun A outer s H vs Q E hr hsp => hbody cdv A outer s H vs Q E hr hsp
end L2

namespace L2
open PySem PySem.Spec PyProof.Rows PySem.W PySem.Builtin.Getset_descriptor
/-- an exception of the class at C, its dict dv, stands at x -/
noncomputable def IsXD (x C : Addr) (dv : Option Addr) (h : Heap) : Prop := ∃ ox vs, h.get? x = some ox ∧ ox.cls = .ref C ∧ ox.dict = dv ∧ ox.data = .fields vs
theorem IsXD.x {x C : Addr} {dv : Option Addr} {h : Heap} (I : IsXD x C dv h) : IsX x C h := let ⟨ox, _, a, b, _⟩ := I; ⟨ox, a, b⟩
theorem extD_ok {P : Program} {w : World} {H : Hp} {h : Heap} {a C : Addr} {dv : Option Addr} (I : IsXD a C dv h) : ObjOk P w H h a (.ext (IsXD a C dv)) :=
  ⟨I, (let ⟨o, _, e, _⟩ := I; ⟨o, e⟩), fun h1 h2 ⟨o, vs, e, c⟩ k => ⟨o, vs, k o e, c⟩⟩
/-- what is asked of the class, for a name in the dict -/
structure XGet (K : Frag) (C : Addr) (name : Str) : Prop where
  xc : XCls K C
  hd : ∃ cd, clsIn K C = some cd ∧ cd.hasDict = true
  no : findIn K (.ref C) name = some none
section
variable {prog : Program} {w : World} {A : Around} {E : Value → Shared → Prop} {h : Heap} {g : Array GenState} {d : Drawn} {t : Nat} {os : OsState} {K : Frag} {x C dx : Addr} {name : Str} {v : Value} {m : Str → Option Value}
theorem xg_find {M : Model} (X : K.In h) (F : XGet K C name) (I : IsXD x C (some dx) h) (n : h.Ns1 dx m) (hv : m name = some v) : Looks M h (Builtin.ObjectAttr.find (.ref x) (.ref C) name) (.value v) := by
  obtain ⟨ox, vs, e1, e2, e3, e4⟩ := I
  obtain ⟨od, ho, hl⟩ := lookIn_ns n
  obtain ⟨cd, hc, hd⟩ := F.hd
  have J : InstAt h x ox C (some od) := ⟨e1, e2, by unfold notCls; rw [e4], by rw [e3]; exact ho⟩
  have L1 := looks_findIn (M := M) X F.no
  have L2 : Looks M h (Builtin.ObjectAttr.getOf none) none := .now
  have L3 : Looks M h (Builtin.ObjectAttr.dataDescriptor? none none) none := .now
  have L4 : Looks M h (Builtin.ObjectAttr.inOwnDict name (.ref x)) (some v) := looks_own X J hc (by unfold PySem.W.ownOf; rw [hd, if_pos rfl]; show lookIn name od = _; rw [hl, hv])
  exact L1.andThen (L2.andThen (L3.andThen (L4.andThen (Looks.tag .now))))
theorem xg_entry {tk : Tok} {Q : Fin → Shared → Prop} (X : K.In h) (F : XGet K C name) (I : IsXD x C (some dx) h) (n : h.Ns1 dx m) (hv : m name = some v) (hq : Q (.done (.ret v)) ⟨h, g, d, t, os⟩) :
    wpAny (model prog w) A (Builtin.«object.__getattribute__» ⟨[.ref x, .str name tk], []⟩) Q E ⟨h, g, d, t, os⟩ := by
  have L0 := I.x.type (M := model prog w)
  have L1 := xg_find (M := model prog w) X F I n hv
  unfold Builtin.«object.__getattribute__»
  refine wpAny_bind (wpAny_pure ?_)
  refine wpAny_bind (wpAny_pure ?_)
  refine wpAny_bind (L0.at (wpAny_bind (L1.at ?_)))
  exact wpAny_pure hq
theorem xg_call {tk : Tok} {R : Result → Shared → Prop} (X : K.In h) (F : XGet K C name) (I : IsXD x C (some dx) h) (n : h.Ns1 dx m) (hv : m name = some v) (hq : R (.ok (.ret v)) ⟨h, g, d, t, os⟩) :
    codeAny (model prog w) A (.call (.builtin "BaseException.__getattribute__") ⟨[.ref x, .str name tk], []⟩) R ⟨h, g, d, t, os⟩ :=
  codeAny_call_builtin PySem.F.attr_ValueError.ga.plain PySem.F.entry_bexc_ga (xc_check X F.xc I.x (xg_entry X F I n hv hq))
theorem xg_attr {expr : Bool} {Q : Value → Shared → Prop} (X : K.In h) (F : XGet K C name) (I : IsXD x C (some dx) h) (n : h.Ns1 dx m) (hv : m name = some v) (hh : handedIn v = true) (hq : Q v ⟨h, g, d, t + 1, os⟩) : wpAny (model prog w) A (getAttr (.ref x) name expr) Q E ⟨h, g, d, t, os⟩ := by
  have L0 := I.x.type (M := model prog w)
  have L1 := looks_findIn (M := model prog w) X F.xc.ga
  have L2 := looks_findIn (M := model prog w) X F.xc.gt
  have hx2 : (Value.builtin "BaseException.__getattribute__" == Value.builtin "object.__getattribute__") = false := by decide +kernel
  have hx1 : (onTheHeap (Value.ref C) && Value.builtin "BaseException.__getattribute__" == Value.builtin "object.__getattribute__") = false := by rw [hx2]; rfl
  have hx3 : (expr && onTheHeap (Value.builtin "BaseException.__getattribute__")) = false := by rw [show onTheHeap (Value.builtin "BaseException.__getattribute__") = false from rfl, Bool.and_false]
  have f3 := PySem.F.attr_ValueError.ga.bind (.ref x)
  have ho := handedOut_of hh
  unfold getAttr getAttrBy
  refine wpAny_bind (wpAny_mkText (wpAny_holding (wpAny_bind (L0.at (wpAny_bind (L1.at ?_))))))
  repeat (any_goals (first | assumption | with_reducible refine L2.at ?_ | wp_step))
  refine xg_call X F I n hv ?_
  dsimp only
  rw [ho]
  exact wpAny_pure hq
end
section
variable {X : Cx}
/-- e.name of an exception -/
noncomputable def tXF (K : Frag) (name : Str) (ta : TE) : TE := fun σ H Q => ta σ H fun v H1 => ∃ (a C dx : Addr) (i : Int) (fs : List (Str × V)), v = .ref a ∧ H1 a = some (.ext (IsXD a C (some dx))) ∧ H1 dx = some (.xd fs) ∧ fs.lookup name = some (.int i) ∧ XGet K C name ∧ Q (.int i) H1
theorem pe_xfld {e : Expr} {name : Str} {ta : TE} {pos : Pos} (K : Frag) (he : PE X e ta) (hb : attributeBase e name X.env (eval e X.env) = eval e X.env := by rfl) (hK : X.K = K := by rfl) : PE X (.Attribute e name pos) (tXF K name ta) := by
  subst hK
  intro pins s σ H Q I h
  refine attr_of hb (thn (he pins s σ H _ I h) fun u s1 ⟨v, H1, I1, rx, a, C, dx, i, fs, ev, ha, hd, hl, G, q⟩ => ?_)
  subst ev
  obtain rfl : u = Value.ref a := rx
  obtain ⟨mA, n, r⟩ := I1.hok dx _ hd
  have rn := r name
  rw [hl] at rn
  cases em : mA name with
  | none => rw [em] at rn; exact False.elim rn
  | some y =>
    rw [em] at rn
    obtain ⟨tk, rfl⟩ : ∃ tk, y = .int i tk := rn
    obtain ⟨hp, gs, dr, tk1, sy⟩ := s1
    exact xg_attr I1.kIn G (I1.hok a _ ha).1 n em rfl ⟨.int i, H1, I1.tok _, ⟨_, rfl⟩, q⟩
end
/-! ### try .. except C as e, where the exception's dict is known -/
section
variable {X : Cx} {pins : List (Addr × Obj)} {σ : St} {H H' : Hp} {s s' : Shared} {a C : Addr}
theorem handleD {cn n : Str} {i : Nat} {CC : Addr} {a0 : Value} {B : Heap} {dv : Option Addr} {np hpos : Pos} {b₀ : Stmt} {suite : List Stmt} {ts : TS} {D : Ends} (hN : X.N.Nodup) (hi : X.N[i]? = some n) (hk : X.env.scope.names.lookup n = some .local) (hex : ∀ b, b ∉ X.ex)
    (hst : X.stack = X.env :: X.outer) (hfr : X.env.frame = some X.env.locals) (hg : Gl X cn) (hm : X.mg cn = some (.ref CC)) (hx : exmOne X.K (.ref C) (.ref CC) = some true) (I : Inv X pins σ H s) (F : Fly X.prog X.w X.stack H H' s s' a (.ref C) a0 B) (dd : ∃ o', s'.heap.get? a = some o' ∧ o'.dict = dv)
    (hsuite : PSs (suiteCx X a) (b₀ :: suite) ts) (q : ts { nx := fun σ2 H2 => D.nx (σ2.set i none) H2, rt := fun _ _ => False } (σ.set i (some (.ref a))) (upd H' a (.ext (IsXD a C dv)))) (hdb : (cn == ("__debug__" : Str)) = false := by decide) :
    wpAny (model X.prog X.w) X.A (noteFrame (.ref a) X.env) (fun _ s₂ => wpAny (model X.prog X.w) X.A (setFlight (.ref a) none) (fun _ s₃ => wpAny (model X.prog X.w) X.A (handleBy (.ref a) X.env [.ExceptHandler (some (.Name cn np)) (some n) (b₀ :: suite) hpos]) (SP X pins D) X.xe s₃) X.xe s₂) X.xe s' := by
  have hcls : (X.env.scope.kind == .class || (X.env.scope.kind == .module && X.env.locals != X.env.globals)) = false := by rw [I.ok.kind]; rfl
  have fl0 := F.fl
  rw [hst] at fl0
  refine look_dict (by rw [← hst]; exact I.ok.frames) hfr fl0 dd fun h4 held4 d4 sm4 => ?_
  refine flight_dict (s := { s' with heap := h4 }) held4.1 held4.2.1 held4.2.2.1 held4.2.2.2 d4 fun h5 fl5 d5 sm5 => ?_
  obtain ⟨n1, n2⟩ := F.new
  have I5 : Inv X pins σ H' { s' with heap := h5 } := F.inv I fl5.1 (sm4.trans sm5)
  obtain ⟨ob, hob, hobc⟩ := fl5.there
  have LT : Looks (model X.prog X.w) h5 (typeOf (.ref a)) (.ref C) := IsX.type ⟨ob, hob, hobc⟩
  refine wpAny_handleBy_cons (codeAny_handlers_test (ld_glob (X := suiteCx X a) (I5.suite a) hg hm ?_ hdb)) (by intro z; cases z)
  refine (exm_one (h := h5) I5.kIn LT hx).at ?_
  refine codeAny_handlers_suite_as ?_
  refine flight_dict (s := { s' with heap := h5 }) fl5.1 fl5.2.1 fl5.2.2.1 fl5.2.2.2.at d5 fun h6 fl6 d6 sm6 => ?_
  have I6 : Inv X pins σ H' { s' with heap := h6 } := F.inv I fl6.1 ((sm4.trans sm5).trans sm6)
  obtain ⟨ob6, vs6, hob6, hobc6, hod6, _⟩ := fl6.first
  obtain ⟨o', ho', hd'⟩ := d6
  rw [hob6] at ho'
  cases ho'
  have I7 : Inv X pins σ (upd H' a (.ext (IsXD a C dv))) { s' with heap := h6 } := Inv.track I hex n1 I6 n2 (extD_ok ⟨ob6, vs6, hob6, hobc6, hd', hod6⟩)
  refine store_ok (X := suiteCx X a) (v := .ref a) (I7.suite a) hN hi (.inl hk) rfl (fun s8 I8 => ?_) (.inr hk)
  refine wpAny_mono (hsuite pins s8 _ _ _ I8 q) (fun f s9 h9 => ?_) fun _ _ z => z.elim
  cases f with
  | next =>
    obtain ⟨σ9, H9, I9, q9⟩ := h9
    have I9' := I9.unsuite I.ok
    obtain ⟨m, hn, hl⟩ := id I9'.loc
    exact wpAny_nameGoes_keeps hk hn hcls fun h10 v hn' hs' => ⟨_, _, I9'.forget hN hi hl hn' hs', q9⟩
  | brk => obtain ⟨_, _, _, z⟩ := h9; exact z.elim
  | cont => obtain ⟨_, _, _, z⟩ := h9; exact z.elim
  | ret u => obtain ⟨_, _, _, _, _, z⟩ := h9; exact z.elim
end
end L2

namespace L2
open PySem PySem.Spec PyProof.Rows
/-! ### try, of a def that may raise an exception with a dict -/
section
variable {X : Cx}
noncomputable def tTryD (sp : Sp) (ta : TA) (i : Nat) (ok : Value → Addr → Prop) (ts : TS) (set : V → St → St) : TS := fun D σ H => ta σ H fun vs H1 => sp vs H1 (fun v H2 => D.nx (set v σ) H2)
  (fun c dv H2 => ∃ C, c = .ref C ∧ ok c C ∧ ∀ a, H2 a = none → ts { nx := fun σ3 H3 => D.nx (σ3.set i none) H3, rt := fun _ _ => False } (σ.set i (some (.ref a))) (upd H2 a (.ext (IsXD a C dv))))
theorem call_xG {CX : CXT} {f : Addr} {fd : FuncData} {k : Nat} {ps : List Str} {sp : Sp} {g : Str} {p cpos : Pos} {e : Expr} {es : List Expr} {ta : TA} {pins : List (Addr × Obj)} {σ : St} {H : Hp} {s : Shared} {E1 : Value → Shared → Prop} {Qv : VK} {Ex : XK}
    (F : FnOk X.prog X.w X.K X.mg X.base CX k f fd ps sp) (hr : Room k X.A) (hm : X.mg g = some (.ref f)) (hkp : PySem.W.keepIn X.K (.ref f) = true) (hb : Binds X.K fd ps []) (ha : PA X.nox (e :: es) ta) (hg : Gl X g)
    (I : Inv X pins σ H s) (h : ta σ H fun vs H1 => sp vs H1 Qv Ex) (hE : ∀ H1 s1 v s', Inv X pins σ H1 s1 → CX X.stack H1 s1 Ex v s' → E1 v s')
    (hdb : (g == ("__debug__" : Str)) = false) (he : starEach (e :: es) X.env = (false, eval e X.env) :: starEach es X.env) (hpl : (backTo cpos (starEach es X.env)).any (·.1) = false) :
    wpAny (model X.prog X.w) X.A (eval (.Call (.Name g p) (e :: es) [] cpos) X.env) (EP X pins σ Qv) E1 s := by
  refine wpAny_Call_Name_kw (ld_glob I hg hm ?_ hdb)
  refine PySem.W.callWith_K (h₀ := X.base) I.ok.mod.kin hkp (wpAny_mono (ha cpos pins s σ H _ (I.wish _) h) (fun us s1 ⟨vs, H1, I1, r, q⟩ => ⟨I1.unwish.kIn, ?_⟩) fun _ _ z => z.elim) he hpl
  have I1' := I1.unwish
  have hl : us.length = ps.length := by rw [← r.length]; exact F.len _ _ _ _ q
  have hb' := hb s1 us I1'.kIn (by rw [List.append_nil]; exact hl)
  rw [List.append_nil] at hb'
  refine wpAny_call (codeAny_mono (F.run X.A X.stack s1 H1 ⟨us, []⟩ us vs Qv Ex hr I1'.env0 hb' r q) fun rr s' hq => ?_)
  cases rr with
  | error v => exact hE H1 s1 v s' I1' hq
  | ok fl =>
    cases fl with
    | ret u => exact I1'.after hq
    | next => exact False.elim hq
    | brk => exact False.elim hq
    | cont => exact False.elim hq
theorem ps_tryED {f : Addr} {fd : FuncData} {k : Nat} {ps : List Str} {sp : Sp} {g cn n : Str} {i : Nat} {CC : Addr} {p cpos epos np hpos pos : Pos} {e : Expr} {es : List Expr} {ta : TA} {b₀ : Stmt} {suite : List Stmt} {ts : TS}
    (F : FnOk X.prog X.w X.K X.mg X.base (CXD X.prog X.w) k f fd ps sp) (hr : Room k X.A) (hm : X.mg g = some (.ref f)) (hkp : PySem.W.keepIn X.K (.ref f) = true) (hb : Binds X.K fd ps []) (ha : PA X.nox (e :: es) ta)
    (hN : X.N.Nodup) (hi : X.N[i]? = some n) (hk : X.env.scope.names.lookup n = some .local) (hsuite : ∀ a, PSs (suiteCx X a) (b₀ :: suite) ts) (hcm : X.mg cn = some (.ref CC))
    (hg : Gl X g := by rfl) (hgc : Gl X cn := by rfl) (hex : ∀ b, b ∉ X.ex := by intro b z; exact absurd (show b ∈ ([] : List Addr) from z) (by simp)) (hst : X.stack = X.env :: X.outer := by rfl) (hfr : X.env.frame = some X.env.locals := by rfl)
    (hdb : (g == ("__debug__" : Str)) = false := by decide) (hdbc : (cn == ("__debug__" : Str)) = false := by decide) (he : starEach (e :: es) X.env = (false, eval e X.env) :: starEach es X.env := by rfl) (hpl : (backTo cpos (starEach es X.env)).any (·.1) = false := by rfl)
    (hsw : swapsWith (.Call (.Name g p) (e :: es) [] cpos) none epos.line X.env = pure false := by rfl) :
    PS X (.Try [.Expr (.Call (.Name g p) (e :: es) [] cpos) epos] [.ExceptHandler (some (.Name cn np)) (some n) (b₀ :: suite) hpos] [] [] pos) (tTryD sp ta i (fun c _ => PySem.W.exmOne X.K c (.ref CC) = some true) ts (fun _ σ => σ)) := by
  intro pins s σ H D I h
  refine wpAny_Try_except (wpAny_execs_cons (wpAny_Expr_any (thn (call_xG F hr hm hkp hb ha hg I h ?_ hdb he hpl) fun v s1 ⟨x, H1, I1, r1, q1⟩ => wpAny_execs_nil (wpAny_execs_nil ⟨σ, H1, I1, q1⟩)) I.quiet hsw))
  intro H1 s1 v s' I1 hx
  obtain ⟨a, cls, a0, dv, H', B, rfl, Fl, dd, C, rfl, hok, q⟩ := hx
  exact handleD hN hi hk hex hst hfr hgc hcm hok I1 Fl dd (hsuite a) (q a Fl.new.2) hdbc
theorem ps_tryAD {f : Addr} {fd : FuncData} {k : Nat} {ps : List Str} {sp : Sp} {g cn n y : Str} {i j : Nat} {CC : Addr} {p py cpos epos np hpos pos : Pos} {e : Expr} {es : List Expr} {ta : TA} {b₀ : Stmt} {suite : List Stmt} {ts : TS}
    (F : FnOk X.prog X.w X.K X.mg X.base (CXD X.prog X.w) k f fd ps sp) (hr : Room k X.A) (hm : X.mg g = some (.ref f)) (hkp : PySem.W.keepIn X.K (.ref f) = true) (hb : Binds X.K fd ps []) (ha : PA X.nox (e :: es) ta)
    (hN : X.N.Nodup) (hi : X.N[i]? = some n) (hk : X.env.scope.names.lookup n = some .local) (hj : X.N[j]? = some y) (hy : X.env.scope.names.lookup y = some .local) (hsuite : ∀ a, PSs (suiteCx X a) (b₀ :: suite) ts) (hcm : X.mg cn = some (.ref CC))
    (hg : Gl X g := by rfl) (hgc : Gl X cn := by rfl) (hex : ∀ b, b ∉ X.ex := by intro b z; exact absurd (show b ∈ ([] : List Addr) from z) (by simp)) (hst : X.stack = X.env :: X.outer := by rfl) (hfr : X.env.frame = some X.env.locals := by rfl)
    (hdb : (g == ("__debug__" : Str)) = false := by decide) (hdbc : (cn == ("__debug__" : Str)) = false := by decide) (he : starEach (e :: es) X.env = (false, eval e X.env) :: starEach es X.env := by rfl) (hpl : (backTo cpos (starEach es X.env)).any (·.1) = false := by rfl)
    (hsw : swapsWith (.Call (.Name g p) (e :: es) [] cpos) (some (.Name y py)) epos.line X.env = pure false := by rfl) :
    PS X (.Try [.Assign [.Name y py] (.Call (.Name g p) (e :: es) [] cpos) epos] [.ExceptHandler (some (.Name cn np)) (some n) (b₀ :: suite) hpos] [] [] pos) (tTryD sp ta i (fun c _ => PySem.W.exmOne X.K c (.ref CC) = some true) ts (fun v σ => σ.set j (some v))) := by
  intro pins s σ H D I h
  refine wpAny_Try_except (wpAny_execs_cons (wpAny_Assign_Name (thn (call_xG F hr hm hkp hb ha hg I h ?_ hdb he hpl) fun v s1 ⟨x, H1, I1, r1, q1⟩ => store_ok I1 hN hj (.inl hy) r1 (fun s2 I2 => wpAny_execs_nil (wpAny_execs_nil ⟨_, H1, I2, q1⟩)) (.inr hy)) hsw))
  intro H1 s1 v s' I1 hx
  obtain ⟨a, cls, a0, dv, H', B, rfl, Fl, dd, C, rfl, hok, q⟩ := hx
  exact handleD hN hi hk hex hst hfr hgc hcm hok I1 Fl dd (hsuite a) (q a Fl.new.2) hdbc
end
section
variable {X : Cx}
theorem call_isxD (K : PySem.W.Frag) (hK : X.K = K := by rfl) : CallR X (.builtin "isinstance") (fun xs H Q => ∃ (a C : Addr) (dv : Option Addr) (c : V) (cv : Value) (b : Bool), xs = [.ref a, c] ∧ clsV c = some cv ∧ H a = some (.ext (IsXD a C dv)) ∧ XCls K C ∧ PySem.W.kitOne K (.ref C) cv = some b ∧ Q (.bl b) H) := by
  subst hK
  intro pins s σ H xs us Q I r h
  obtain ⟨a, C, dv, c, cv, b, rfl, hc, ha, F, e, q⟩ := h
  obtain ⟨u, w', rfl, r1, r2⟩ := vals2 r
  cases r1
  rw [clsV_rel hc r2]
  exact PySem.W.kia_one (kitx_exc F) I.kIn (I.hok a _ ha).1.x e (fun z => nomatch z) fun tk => ⟨.bl b, H, I.tok tk, rfl, q⟩
end
end L2

namespace L2
open PySem PySem.Spec PyProof.Rows
section
variable {X : Cx}
/-- name.get(e) of a dict of the module whose keys are texts -/
noncomputable def tGGet (val : Str → Option V) (te : TE) : TE := fun σ H Q => te σ H fun y H1 => ∃ w v, y = .str w ∧ val w = some v ∧ Q v H1
theorem pe_gget {n : Str} {a : Addr} {o : Obj} {es : Array DictEntry} {ep : Nat} {val : Str → Option V} {e : Expr} {te : TE} {p apos cpos : Pos} (hg : Gl X n) (hm : X.mg n = some (.ref a)) (lk : X.K.lookup a = some o) (ty : o.cls = .type "dict") (ed : o.ExactDict) (od : o.data = .dict es ep) (ks : KeysOf (mixKind X.prog X.w) es) (hs : (a == sysModules) = false)
    (hv : ∀ w v, val w = some v → ∃ u, findBy (mixKind X.prog X.w).is es (.inr w) = some u ∧ RelV v u) (he : PE X e te) (hdb : (n == ("__debug__" : Str)) = false := by decide)
    (base : attributeBase (.Name n p) "get" X.env (eval (.Name n p) X.env) = eval (.Name n p) X.env := by rfl)
    (few : ((backTo cpos (starEach [e] X.env)).all (fun x => !x.1) && (backToKw cpos (keywordEach [] X.env)).all (fun x => x.1.isSome)
      && decide (([e] : List Expr).length + ([] : List Keyword).length + (if ([] : List Keyword).isEmpty then 0 else 1) < 30)) = true := by rfl)
    (line : (apos.endLine == cpos.line) = true := by rfl) (trees : backTo cpos (starEach [e] X.env) = [(false, eval e X.env)] := by rfl) :
    PE X (.Call (.Attribute (.Name n p) "get" apos) [e] [] cpos) (tGGet val te) := by
  intro pins s σ H Q I h
  have oa : ∀ {H' : Hp} {s' : Shared}, Inv X pins σ H' s' → s'.heap.get? a = some o := fun J => J.kIn _ _ lk
  refine wpAny_Call_method base few line PySem.F.plainAttrs_dict PySem.F.slot_dict_get PySem.F.type_dict_get (ld_glob I hg hm ?_ hdb)
  refine ⟨⟨o, oa I, ty⟩, fun b z => ⟨o, ?_, ?_⟩, ?_⟩
  · cases z; exact oa I
  · exact ed.2.1
  · rw [trees]
    refine Calls.callWith_builtin rfl (Calls.evalArgs_plain (Calls.spliced_cons (thn (he pins s σ H _ I h) fun iv s2 ⟨y, H2, I2, ry, w, v, ey, hw, q⟩ => Calls.spliced_nil ?_)))
    subst ey
    obtain ⟨tk, rfl⟩ : ∃ tk, iv = .str w tk := ry
    obtain ⟨u, hu, ru⟩ := hv w v hw
    have mo : s2.heap.MapOf (mixKind X.prog X.w) a (fun k => findBy (mixKind X.prog X.w).is es k) := ⟨o, es, ep, oa I2, ed, od, ks, fun _ => rfl⟩
    refine call_meetsIn PySem.F.slot_dict_get ⟨o, oa I2, ty⟩ PySem.F.entry_dict_get (PySem.F.args_dict_get_2 _ _) (meets_dict_get (mixKind X.prog X.w) a (k := .inr w) (by simp [mixKind, keyIs, Value.isStrOf]) hs) ⟨_, mo, ⟨v, H2, I2.tok _, ?_, q⟩⟩
    rw [hu]
    exact ru
end
end L2

namespace L2
open PySem PySem.Spec PyProof.Rows
section
variable {X : Cx}
/-- () + t -/
noncomputable def rCatT0 (K : PySem.W.Frag) : R2 := fun x y H Q => ∃ a b ys, x = .ref a ∧ y = .ref b ∧ SqT K H a [] ∧ SqT K H b ys ∧ Q (.ref b) H
theorem op_catT0 : OpR X (binaryOp .Add) (rCatT0 X.K) := by
  intro pins s σ H x y v u Q I rx ry h
  obtain ⟨a, b, ys, rfl, rfl, ha, hb, q⟩ := h
  cases rx
  cases ry
  obtain ⟨its, r1, p1, _⟩ := I.tuple ha
  obtain ⟨its2, r2, p2, _⟩ := I.tuple hb
  have e1 : its = [] := r1.nil_iff.mpr rfl
  subst e1
  obtain ⟨⟨cls, dd, data, sl⟩, ho, hc, n, hd⟩ := id p1
  obtain ⟨⟨cls2, dd2, data2, sl2⟩, ho2, hc2, n2, hd2⟩ := id p2
  simp only at hc hd hc2 hd2
  subst hc hd hc2 hd2
  exact concat_meets ⟨_, ho, rfl⟩ ⟨_, ho2, rfl⟩ noFill_tuple_add seq_tuple_add PySem.F.slot_tuple_add PySem.F.entry_tuple_add (PySem.F.args_tuple_add_2 _ _)
    (tuple_addW0 a b ([] : List Value).toArray its2.toArray n n2 dd dd2 sl sl2 (by simp)) ⟨ho, ho2, ⟨.ref b, H, I, rfl, q⟩⟩
noncomputable abbrev rCat2 (K : PySem.W.Frag) : R2 := fun x y H Q => rCatT K x y H Q ∨ rCatT0 K x y H Q
theorem op_cat2 : OpR X (binaryOp .Add) (rCat2 X.K) := op_catT.or op_catT0
end
theorem cat_step {K : PySem.W.Frag} {H : Hp} {Q : VK} {p1 p2 : Addr} {xs ys : List V} (h1 : H p1 = some (.tup xs)) (h2 : H p2 = some (.tup ys)) (hy : xs ≠ [] ∨ ys ≠ []) (hz : xs.length + ys.length ≤ 64) (k : ∀ p H', Same H H' → H' p = some (.tup (xs ++ ys)) → Q (.ref p) H') : rCat2 K (.ref p1) (.ref p2) H Q := by
  by_cases hx : xs = []
  · refine .inr ⟨p1, p2, ys, rfl, rfl, by rw [← hx]; exact SqT.of h1, SqT.of h2, k p2 H (Same.refl _) ?_⟩
    rw [h2, hx]; rfl
  · refine .inl ⟨p1, p2, xs, ys, rfl, rfl, SqT.of h1, SqT.of h2, hx, Nat.le_trans hz (by decide), fun e => k p1 H (Same.refl _) ?_, fun _ p hp => k p _ (same_new hp) upd_same⟩
    rw [h1, e, List.append_nil]
end L2

namespace Lw
open PySem L2
/-- a def of the text, as the walk calls it -/
noncomputable def Def (P : Program) (w : World) (K : PySem.W.Frag) (mg : Str → Option Value) (base : Heap) (name : Str) (k : Nat) (ps : List Str) (sp : Sp) : Prop :=
  ∃ (f : Addr) (fd : FuncData), FnOk P w K mg base CX0 k f fd ps sp ∧ mg name = some (.ref f) ∧ PySem.W.keepIn K (.ref f) = true ∧ Binds K fd ps []
/-- a def's address and record -/
structure At (K : PySem.W.Frag) (mg : Str → Option Value) (name : Str) (st : Stmt) (ps : List Str) (f : Addr) (fd : FuncData) : Prop where
  F : Fun K name name st f fd
  m : mg name = some (.ref f)
  b : Binds K fd ps []
theorem At.def {P : Program} {w : World} {K : PySem.W.Frag} {mg : Str → Option Value} {base : Heap} {name : Str} {st : Stmt} {ps : List Str} {f : Addr} {fd : FuncData} {k : Nat} {sp : Sp} (a : At K mg name st ps f fd) (G : FnOk P w K mg base CX0 k f fd ps sp) : Def P w K mg base name k ps sp :=
  ⟨f, fd, G, a.m, a.F.kp, a.b⟩
theorem pe_def {X : Cx} {name : Str} {k : Nat} {ps : List Str} {sp : Sp} {p pos : Pos} {e : Expr} {es : List Expr} {t : TA} (D : Def X.prog X.w X.K X.mg X.base name k ps sp) (hr : Room k X.A) (ha : PA X (e :: es) t) (hg : Gl X name := by rfl) (hdb : (name == ("__debug__" : Str)) = false := by decide)
    (he : starEach (e :: es) X.env = (false, eval e X.env) :: starEach es X.env := by rfl) (hpl : (backTo pos (starEach es X.env)).any (·.1) = false := by rfl) : PE X (.Call (.Name name p) (e :: es) [] pos) (tCall sp [] E0 t) := by
  obtain ⟨f, fd, G, m, kp, b⟩ := D
  exact pe_call G hr hg m kp b .nil pass0 ha hdb he hpl
theorem md {m : Int} (h : decide (0 < m) = true := by decide) : 0 < m := of_decide_eq_true h
theorem atI_int {α : Type} {xs : List α} {k : Int} {v : α} (h0 : 0 ≤ k) (h : xs[k.toNat]? = some v) : atI xs k = some v := by
  have e := atI_nat h
  rw [Int.toNat_of_nonneg h0] at e
  exact e
theorem small64 {n : Nat} (h : n ≤ 64) : n ≤ sizeLine := Nat.le_trans h (by decide)
theorem ite_tf {c : Bool} {A B : Prop} (h1 : c = true → A) (h2 : c = false → B) : if c = true then A else B := by
  cases c
  · exact iteF (h2 rfl)
  · exact iteT (h1 rfl)
/-- what the top leaves of the built-in names -/
structure Txt (K : PySem.W.Frag) (mg : Str → Option Value) : Prop where
  len : mg "len" = none
  sum : mg "sum" = none
  range : mg "range" = none
  tuple : mg "tuple" = none
  list : mg "list" = none
  isi : mg "isinstance" = none
  int : mg "int" = none
  bool : mg "bool" = none
  zip : mg "zip" = none
  enumerate : mg "enumerate" = none
  max : mg "max" = none
  min : mg "min" = none
  all : mg "all" = none
  any : mg "any" = none
  ii : PySem.W.kitOne K (.type "int") (.type "int") = some true
  ib : PySem.W.kitOne K (.type "int") (.type "bool") = some false

noncomputable def top (i : Nat) : Stmt := PySem.Challenge.pw_lendwharf_k07_deeds_done.main.body.getD i (.Pass ⟨0, 0, 0, 0⟩)
noncomputable abbrev sWhole : Stmt := top 17
noncomputable abbrev sBetween : Stmt := top 18
noncomputable abbrev sHouse : Stmt := top 20
noncomputable abbrev sRights : Stmt := top 21
noncomputable abbrev sStock : Stmt := top 22
noncomputable abbrev sTextNum : Stmt := top 25
noncomputable abbrev sIsDeed : Stmt := top 26
noncomputable abbrev sNeedH : Stmt := top 27
noncomputable abbrev sPlace : Stmt := top 28
noncomputable abbrev sRaised : Stmt := top 29
noncomputable abbrev sDone : Stmt := top 30
noncomputable abbrev sDraw : Stmt := top 32
noncomputable abbrev sLWhole : Stmt := top 33
noncomputable abbrev sEntry : Stmt := top 34
noncomputable abbrev sTable : Stmt := top 35
noncomputable abbrev sLRights : Stmt := top 36
noncomputable abbrev sLIsTable : Stmt := top 37
noncomputable abbrev sRefused : Stmt := top 38
noncomputable abbrev sTold : Stmt := top 39
noncomputable abbrev sDeed : Stmt := top 40
noncomputable abbrev sDue : Stmt := top 41
noncomputable abbrev sMoved : Stmt := top 42
noncomputable abbrev sLaw : Stmt := top 43
set_option maxHeartbeats 1000000

section
variable {P : Program} {w : World} {K : PySem.W.Frag} {mg : Str → Option Value} {base : Heap}
/-! ### the law's draws -/
noncomputable def spDraw (K : PySem.W.Frag) : Sp := fun vs H Q _ => ∃ (a : Addr) (ns : List Int) (k : Int), vs = [.ref a, .int k] ∧ SqL K H a (ns.map V.int) ∧ ns.length ≤ 63 ∧ 0 ≤ k ∧ k ≤ 1000000 ∧ ∀ (d : Int) H', Same H H' → 0 ≤ d → Q (.int d) H'
theorem scDraw : FnScope ["script", "k", "mixed", "cell"] ["script", "k"] (defScope sDraw) := ⟨rfl, rfl, rfl, by decide +kernel, rfl, by decide +kernel, by decide +kernel⟩
theorem mod_lt_nn {a m : Int} (h : 0 < m) : 0 ≤ a % m ∧ a % m < m := ⟨Int.emod_nonneg _ (by omega), Int.emod_lt_of_pos _ h⟩
theorem ok_draw {f : Addr} {fd : FuncData} (F : Fun K "_law_b_draw" "_law_b_draw" sDraw f fd) (T : Txt K mg) : FnOk P w K mg base CX0 1 f fd ["script", "k"] (spDraw K) := by
  refine F.ok scDraw (fun vs H Q E h => ?_) (fun cdv A outer s H vs Q E hr h => ?_)
  · obtain ⟨a, ns, k, rfl, _⟩ := h
    rfl
  · obtain ⟨a, ns, k, rfl, hS, hlen, h0, h1, kk⟩ := h
    refine ⟨_, pss_cons (ps_if (pt_cmpR op_lt (pv 1) (pe_callB call_len_seq (by rfl) T.len PySem.boot_len (pa_cons (pv 0) pa_nil)) (nomark _))
        (pss_one (ps_ret (pe_op op_mod (pe_ix ix_list (pv 0) (pv 1) (fun _ _ => rfl)) (pe_op op_pow pe_int pe_int)))) pss_nil)
      (pss_cons (ps_set (i := 2) scDraw.nd rfl (Or.inl rfl) (pe_op op_mul pe_int (pe_op op_add (pv 1) pe_int)))
      (pss_cons (ps_for PassesOwn.never rfl (pi_list (pe_slice sl_list (pv 0) po_none (po_some pe_int))) (pg_name (i := 3) scDraw.nd rfl (Or.inl rfl))
        (pss_one (ps_set (i := 2) scDraw.nd rfl (Or.inl rfl) (pe_op op_mod (pe_op op_add (pe_op op_add (pe_op op_mul (pv 2) pe_int) (pe_op op_mod (pv 3) pe_int)) pe_int) pe_int))))
      (pss_cons (ps_set (i := 2) scDraw.nd rfl (Or.inl rfl) (pe_op op_mod (pe_op op_mul (pv 2) (pv 2)) pe_int))
      (pss_cons (ps_set (i := 2) scDraw.nd rfl (Or.inl rfl) (pe_op op_mod (pe_op op_mul (pe_op op_add (pv 2) (pe_op op_mul (pe_op op_mul pe_int (pv 1)) (pv 1))) pe_int) pe_int))
      (pss_one (ps_ret (pe_op op_fdiv (pe_op op_mod (pe_op op_mul (pv 2) (pv 2)) pe_int) pe_int))))))), ?_⟩
    refine ⟨_, rfl, _, rfl, a, _, rfl, .inl hS, _, _, rfl, rfl, _, rfl, ?_⟩
    refine ite_tf (fun hk => ?_) (fun hk => ?_)
    · have hk' : k < ((ns.map V.int).length : Int) := of_decide_eq_true hk
      rw [List.length_map] at hk'
      have hkn : k.toNat < ns.length := by omega
      have hat : atI (ns.map V.int) k = some (V.int ns[k.toNat]) := atI_int h0 (by rw [List.getElem?_map, List.getElem?_eq_getElem hkn]; rfl)
      refine ⟨_, rfl, _, rfl, a, _, _, _, rfl, rfl, hS, hat, _, _, rfl, rfl, ⟨by decide, by decide, by decide⟩, _, _, rfl, rfl, md, ?_⟩
      exact kk _ H (Same.refl H) (mod_lt_nn (by decide)).1
    · refine ⟨_, rfl, _, _, rfl, rfl, _, _, rfl, rfl, .inl ⟨by decide, by decide⟩, ?_⟩
      -- script[:7]
      refine ⟨_, rfl, _, rfl, a, _, rfl, hS, fun p hp => ?_⟩
      have hcut : ∀ z ∈ cutV (ns.map V.int) none (some 7), ∃ i, z = V.int i := fun z hz => by
        unfold cutV at hz
        have h1 := List.mem_of_mem_take hz
        have h2 := List.mem_of_mem_drop h1
        obtain ⟨i, _, e⟩ := List.mem_map.mp h2
        exact ⟨i, e.symm⟩
      have s1 : Same H (upd H p (.lst (cutV (ns.map V.int) none (some 7)))) := same_new hp
      refine ⟨p, rfl, ⟨_, SqL.of upd_same⟩, for_list (K := K) (a := p) (xs := cutV (ns.map V.int) none (some 7)) (fun i σ H2 => ∃ (m : Int) (v : Option V), σ = [some (.ref a), some (.int k), some (.int m), v] ∧ H2 = upd H p (.lst (cutV (ns.map V.int) none (some 7))) ∧ 0 ≤ m ∧ m ≤ 10000000000000)
        ⟨_, none, rfl, rfl, by omega, by omega⟩ (fun i σ H2 _ ⟨_, _, _, e, _⟩ => by rw [e]; exact SqL.of upd_same) ?_ ?_⟩
      · rintro i y σ H2 hi ⟨m, v, rfl, rfl, m0, m1⟩
        obtain ⟨c, rfl⟩ := hcut y (List.mem_of_getElem? hi)
        refine ⟨_, rfl, _, _, rfl, rfl, .inr ⟨by decide, by decide⟩, _, rfl, _, _, rfl, rfl, md, _, _, rfl, rfl, _, _, rfl, rfl, _, _, rfl, rfl, md, ?_⟩
        refine ⟨_, _, rfl, rfl, (mod_lt_nn (by decide)).1, ?_⟩
        have := (mod_lt_nn (a := m * 69621 + c % 998244353 + 1) (m := 1000000007) (by decide)).2
        omega
      · rintro σ H2 ⟨m, v, rfl, rfl, m0, m1⟩
        refine ⟨_, rfl, _, rfl, _, _, rfl, rfl, .inl ⟨by omega, by omega⟩, _, _, rfl, rfl, md, ?_⟩
        have q1 := mod_lt_nn (a := m * m) (m := 1000000007) (by decide)
        refine ⟨_, rfl, _, rfl, _, _, rfl, rfl, .inl ⟨by decide, by decide⟩, _, rfl, _, _, rfl, rfl, .inr ⟨by omega, by omega⟩, _, _, rfl, rfl, _, _, rfl, rfl, .inr ⟨by decide, by decide⟩, _, _, rfl, rfl, md, ?_⟩
        have q2 := mod_lt_nn (a := (m * m % 1000000007 + 7919 * k * k) * 48271) (m := 2147483647) (by decide)
        refine ⟨_, rfl, _, rfl, _, _, rfl, rfl, .inl ⟨by omega, by omega⟩, _, _, rfl, rfl, md, _, _, rfl, rfl, ⟨by decide, by decide⟩, ?_⟩
        refine kk _ _ s1 (Int.ediv_nonneg (mod_lt_nn (by decide)).1 (by decide))
noncomputable def spEntry : Sp := fun vs H Q _ => ∃ d : Int, vs = [.int d] ∧ 0 ≤ d ∧ ∀ e : Int, 0 ≤ e → Q (.int e) H
theorem scEntry : FnScope ["draw", "way", "rest"] ["draw"] (defScope sEntry) := ⟨rfl, rfl, rfl, by decide +kernel, rfl, by decide +kernel, by decide +kernel⟩
theorem ok_entry {f : Addr} {fd : FuncData} (F : Fun K "_law_b_entry" "_law_b_entry" sEntry f fd) : FnOk P w K mg base CX0 1 f fd ["draw"] spEntry := by
  refine F.ok scEntry (fun vs H Q E h => ?_) (fun cdv A outer s H vs Q E hr h => ?_)
  · obtain ⟨d, rfl, _⟩ := h
    rfl
  · obtain ⟨d, rfl, h0, kk⟩ := h
    refine ⟨_, pss_cons (ps_set (i := 1) scEntry.nd rfl (Or.inl rfl) (pe_op op_mod (pv 0) pe_int))
      (pss_cons (ps_set (i := 2) scEntry.nd rfl (Or.inl rfl) (pe_op op_fdiv (pv 0) pe_int))
      (pss_cons (ps_if (pt_cmpR op_lt (pv 1) pe_int (nomark _)) (pss_one (ps_ret pe_int)) pss_nil)
      (pss_cons (ps_if (pt_cmpR op_lt (pv 1) pe_int (nomark _)) (pss_one (ps_ret (pe_op op_mod (pv 2) pe_int))) pss_nil)
      (pss_cons (ps_if (pt_cmpR op_eq (pv 1) pe_int (nomark _)) (pss_one (ps_ret (pe_op op_mod (pv 2) pe_int))) pss_nil)
      (pss_one (ps_ret (pe_op op_mod (pv 2) (pe_op op_pow pe_int pe_int)))))))), ?_⟩
    refine ⟨_, rfl, _, _, rfl, rfl, md, _, rfl, _, _, rfl, rfl, ⟨by decide, by decide⟩, _, rfl, _, _, rfl, rfl, _, rfl, ?_⟩
    refine ite_tf (fun _ => kk 0 (by decide)) (fun _ => ?_)
    refine ⟨_, rfl, _, _, rfl, rfl, _, rfl, ?_⟩
    refine ite_tf (fun _ => ⟨_, rfl, _, _, rfl, rfl, md, kk _ (mod_lt_nn (by decide)).1⟩) (fun _ => ?_)
    refine ⟨_, rfl, rfl, _, rfl, ?_⟩
    refine ite_tf (fun _ => ⟨_, rfl, _, _, rfl, rfl, md, kk _ (mod_lt_nn (by decide)).1⟩) (fun _ => ?_)
    exact ⟨_, rfl, _, _, rfl, rfl, ⟨by decide, by decide, by decide⟩, _, _, rfl, rfl, md, kk _ (mod_lt_nn (by decide)).1⟩
noncomputable def spTable (K : PySem.W.Frag) : Sp := fun vs H Q _ => ∃ (a : Addr) (ns : List Int) (n : Nat) (at_ : Int), vs = [.ref a, .int n, .int at_] ∧ SqL K H a (ns.map V.int) ∧ ns.length ≤ 63 ∧ n ≤ 16 ∧ 0 ≤ at_ ∧ at_ ≤ 10000 ∧
  ∀ (p : Addr) (tb : List (List Int)) H', Same H H' → Tab H' p tb → Wf n tb → Q (.ref p) H'
theorem scTable : FnScope ["script", "n", "at", "rows", "i"] ["script", "n", "at"] (defScope sTable) := ⟨rfl, rfl, rfl, by decide +kernel, rfl, by decide +kernel, by decide +kernel⟩
theorem ok_table {f : Addr} {fd : FuncData} (F : Fun K "_law_b_table" "_law_b_table" sTable f fd) (T : Txt K mg) (GD : Def P w K mg base "_law_b_draw" 1 ["script", "k"] (spDraw K)) (GE : Def P w K mg base "_law_b_entry" 1 ["draw"] spEntry) :
    FnOk P w K mg base CX0 2 f fd ["script", "n", "at"] (spTable K) := by
  refine F.ok scTable (fun vs H Q E h => ?_) (fun cdv A outer s H vs Q E hr h => ?_)
  · obtain ⟨a, ns, n, at_, rfl, _⟩ := h
    rfl
  · obtain ⟨a, ns, n, at_, rfl, hS, hlen, hn, ha0, ha1, kk⟩ := h
    refine ⟨_, pss_cons (ps_set (i := 3) scTable.nd rfl (Or.inl rfl) (pe_lst pa_nil))
      (pss_cons (ps_for PassesOwn.never rfl (pi_range1 rfl T.range (pa_cons (pv 1) pa_nil)) (pg_name (i := 4) scTable.nd rfl (Or.inr rfl))
        (pss_one (ps_expr (pe_bm PySem.F.plainAttrs_list PySem.F.slot_list_append PySem.F.type_list_append mt_append (pv 3)
          (pa_cons (pe_callTy call_tuple_of (by rfl) T.tuple boot_tuple (pa_cons (pe_comp (N := ["script", "n", "at", "rows", "i"]) (scE := defScope sTable) (N' := ["j", "script", "at", "i", "n"]) (cap := [none, some 0, some 2, some 4, some 1]) rfl
            (pi_range1 rfl T.range (pa_cons (pe_op op_add (pv 1) pe_int) pa_nil)) (fun _ _ _ _ _ => pg_name (i := 0) (show (["j", "script", "at", "i", "n"] : List Str).Nodup by decide +kernel) rfl (Or.inl rfl))
            (fun _ _ _ _ _ => pe_def GE hr (pa_cons (pe_def GD hr (pa_cons (pv 1) (pa_cons (pe_op op_add (pe_op op_add (pv 2) (pe_op op_mul (pv 3) (pe_op op_add (pv 4) pe_int))) (pv 0)) pa_nil))) pa_nil))) pa_nil)) pa_nil)))))
      (pss_one (ps_ret (pe_callTy call_tuple_of (by rfl) T.tuple boot_tuple (pa_cons (pv 3) pa_nil))))), ?_⟩
    refine ⟨Nat.zero_le _, fun l hl => ?_⟩
    refine ⟨_, rfl, n, rfl, by omega, by omega, ?_⟩
    rw [Int.toNat_natCast]
    refine for_range (lo := 0) (n := n) (fun i σ H2 => ∃ (ys : List V) (rows : List (List Int)) (v : Option V), σ = [some (.ref a), some (.int n), some (.int at_), some (.ref l), v] ∧ Same H H2 ∧ H2 l = some (.lst ys) ∧ ys.length = i ∧ rows.length = i ∧
        (∀ (j : Nat) y, ys[j]? = some y → ∃ r row, y = .ref r ∧ rows[j]? = some row ∧ H2 r = some (.tup (row.map V.int))) ∧ ∀ row ∈ rows, row.length = n + 1 ∧ ∀ x ∈ row, (0 : Int) ≤ x)
      ⟨[], [], none, rfl, same_new hl, upd_same, rfl, rfl, fun j y e => (by simp at e), fun row hr => (by simp at hr)⟩ ?_ ?_
    · rintro i σ H2 hi ⟨ys, rows, v, rfl, s2, hl2, hy, hro, hrows, hwf⟩
      have lS : SqL K H2 a (ns.map V.int) := s2.seq hS
      refine ⟨_, rfl, .inl ⟨rfl, _, SqL.of hl2⟩, ?_⟩
      refine ⟨_, rfl, _, _, rfl, rfl, (n : Int) + 1, rfl, by omega, by omega, ?_⟩
      refine comp_range (lo := 0) (n := ((n : Int) + 1).toNat) [some (.ref a), some (.int at_), some (.int (0 + (i : Int))), some (.int n)] (by rfl) (small64 (by omega)) (fun _ y _ => ∃ x : Int, y = .int x ∧ 0 ≤ x) (fun _ _ _ _ _ h => h) ?_ ?_
      · intro j H3 R hj s3 kk3
        have hmul : (i : Int) * (n + 1) ≤ 16 * 17 := Int.mul_le_mul (by omega) (by omega) (by omega) (by omega)
        have hmul0 : 0 ≤ (i : Int) * (n + 1) := Int.mul_nonneg (by omega) (by omega)
        refine ⟨_, rfl, _, rfl, _, rfl, _, rfl, _, _, rfl, rfl, _, _, rfl, rfl, .inl ⟨by omega, by omega⟩, _, _, rfl, rfl, _, rfl, _, _, rfl, rfl, a, ns, _, rfl, s3.seq lS, hlen, ?_, ?_, fun d H4 s4 d0 => ?_⟩
        · simp only [Int.zero_add]; omega
        · simp only [Int.zero_add]; omega
        · exact ⟨d, rfl, d0, fun e e0 => kk3 _ H4 s4 ⟨e, rfl, e0⟩⟩
      · intro acc zs H3 s3 hacc h3 hz hF
        obtain ⟨row, hrow⟩ : ∃ row : List Int, zs = row.map V.int := by
          clear hz
          have : ∀ zs : List V, (∀ (i : Nat) y, zs[i]? = some y → ∃ x : Int, y = .int x ∧ 0 ≤ x) → ∃ row : List Int, zs = row.map V.int := by
            intro zs
            induction zs with
            | nil => intro _; exact ⟨[], rfl⟩
            | cons z r ih =>
              intro hh
              obtain ⟨row, e⟩ := ih fun i y q => hh (i + 1) y (by simpa using q)
              obtain ⟨x, e2, _⟩ := hh 0 z rfl
              exact ⟨x :: row, by rw [e, e2]; rfl⟩
          exact this zs hF
        subst hrow
        rw [List.length_map] at hz
        have nn : ∀ x ∈ row, (0 : Int) ≤ x := fun x hx => by
          obtain ⟨j, hj, e⟩ := List.mem_iff_getElem.mp hx
          obtain ⟨x', e', h0⟩ := hF j (.int x) (by rw [List.getElem?_map, List.getElem?_eq_getElem hj, e]; rfl)
          cases e'
          exact h0
        refine ⟨acc, _, rfl, .inl ⟨SqL.of h3, fun r hr => ?_⟩⟩
        have hl3 : H3 l = some (.lst ys) := s3 _ _ hl2
        have hlr : l ≠ r := ne_of_none hl3 hr
        refine ⟨l, ys, _, rfl, rfl, by rw [upd_ne hlr]; exact hl3, small1000 (by omega), ?_⟩
        have sF : Same H (upd (upd H3 r (.tup (row.map V.int))) l (.lst (ys ++ [.ref r]))) := ((s2.trans s3).trans (same_new hr)).upd hl
        have tF : TSame H2 (upd (upd H3 r (.tup (row.map V.int))) l (.lst (ys ++ [.ref r]))) := ((s3.trans (same_new hr)).t).trans (tsame_lst (xs := ys) (by rw [upd_ne hlr]; exact hl3))
        refine ⟨ys ++ [.ref r], rows ++ [row], _, rfl, sF, upd_same, by simp [hy], by simp [hro], fun j y e => ?_, fun rw' hm => ?_⟩
        · rcases get_snoc e with ⟨hj, e⟩ | ⟨rfl, rfl⟩
          · obtain ⟨r', row', e1, e2, e3⟩ := hrows j y e
            exact ⟨r', row', e1, by rw [List.getElem?_append_left (by omega)]; exact e2, tF _ _ e3⟩
          · exact ⟨r, row, rfl, by rw [hy, ← hro]; simp, by rw [upd_ne (Ne.symm hlr), upd_same]⟩
        · rcases List.mem_append.mp hm with hm | hm
          · exact hwf rw' hm
          · have : rw' = row := by simpa using hm
            subst this
            exact ⟨by omega, nn⟩
    · rintro σ H2 ⟨ys, rows, v, rfl, s2, hl2, hy, hro, hrows, hwf⟩
      refine ⟨_, rfl, l, _, rfl, .inl ⟨SqL.of hl2, fun p hp => ?_⟩⟩
      refine kk p rows _ (s2.trans (same_new hp)) (tab_of upd_same (by omega) fun i y e => ?_) ⟨hro, hwf⟩
      obtain ⟨r, row, e1, e2, e3⟩ := hrows i y e
      exact ⟨r, row, e1, e2, by rw [upd_ne (ne_of_none e3 hp)]; exact e3⟩
end

section
variable {P : Program} {w : World} {K : PySem.W.Frag} {mg : Str → Option Value} {base : Heap}
/-! ### is_whole, is_house, rights -/
noncomputable def spWhole (K : PySem.W.Frag) : Sp := fun vs H Q _ => ∃ (x : V) (t : Value) (b1 b2 : Bool), vs = [x] ∧ TyOf K H x t ∧ PySem.W.kitOne K t (.type "int") = some b1 ∧ PySem.W.kitOne K t (.type "bool") = some b2 ∧ Q (.bl (b1 && !b2)) H
theorem scWhole : FnScope ["thing"] ["thing"] (defScope sWhole) := ⟨rfl, rfl, rfl, by decide +kernel, rfl, by decide +kernel, by decide +kernel⟩
theorem ok_whole {f : Addr} {fd : FuncData} (F : Fun K "is_whole" "is_whole" sWhole f fd) (T : Txt K mg) : FnOk P w K mg base CX0 1 f fd ["thing"] (spWhole K) := by
  refine F.ok scWhole (fun vs H Q E h => ?_) (fun cdv A outer s H vs Q E hr h => ?_)
  · obtain ⟨x, t, b1, b2, rfl, _⟩ := h
    rfl
  · obtain ⟨x, t, b1, b2, rfl, ty, k1, k2, kk⟩ := h
    refine ⟨_, pss_one (ps_ret (pe_and (pe_callB call_isinst (by rfl) T.isi boot_isinstance (pa_cons (pv 0) (pa_cons (pe_bltn (v := .ty "int") (by rfl) T.int boot_int rfl) pa_nil)))
      (pe_one (pe_not (pe_callB call_isinst (by rfl) T.isi boot_isinstance (pa_cons (pv 0) (pa_cons (pe_bltn (v := .ty "bool") (by rfl) T.bool boot_bool rfl) pa_nil))))))), ?_⟩
    refine ⟨_, rfl, x, _, _, t, b1, rfl, rfl, ty, k1, b1, rfl, ?_⟩
    refine ite_tf (fun hb => ?_) (fun hb => ?_)
    · subst hb
      exact ⟨_, rfl, x, _, _, t, b2, rfl, rfl, ty, k2, b2, rfl, kk⟩
    · subst hb
      exact kk
noncomputable def spBetween : Sp := fun vs H Q _ => ∃ (i a b : Int), vs = [.int i, .int a, .int b] ∧ Q (.bl (decide (a ≤ i) && decide (i ≤ b))) H
theorem scBetween : FnScope ["thing", "least", "most"] ["thing", "least", "most"] (defScope sBetween) := ⟨rfl, rfl, rfl, by decide +kernel, rfl, by decide +kernel, by decide +kernel⟩
theorem ok_between {f : Addr} {fd : FuncData} (F : Fun K "is_between" "is_between" sBetween f fd) (T : Txt K mg) (GW : Def P w K mg base "is_whole" 1 ["thing"] (spWhole K)) : FnOk P w K mg base CX0 2 f fd ["thing", "least", "most"] spBetween := by
  refine F.ok scBetween (fun vs H Q E h => ?_) (fun cdv A outer s H vs Q E hr h => ?_)
  · obtain ⟨i, a, b, rfl, _⟩ := h
    rfl
  · obtain ⟨i, a, b, rfl, kk⟩ := h
    refine ⟨_, pss_one (ps_ret (pe_and (pe_def GW hr (pa_cons (pv 0) pa_nil)) (pe_one (pe_chain op_le op_le (pv 1) (pv 0) (pv 2))))), ?_⟩
    refine ⟨_, rfl, .int i, _, true, false, rfl, TyOf.int i, T.ii, T.ib, true, rfl, iteT ?_⟩
    refine ⟨_, rfl, _, rfl, _, _, rfl, rfl, _, rfl, ?_⟩
    refine ite_tf (fun hb => ?_) (fun hb => ?_)
    · refine ⟨_, rfl, _, _, rfl, rfl, ?_⟩
      rw [hb] at kk
      exact kk
    · rw [hb] at kk
      exact kk
noncomputable def spHouse (K : PySem.W.Frag) : Sp := fun vs H Q _ => ∃ (a : Addr) (xs : List V) (i : Int), vs = [.ref a, .int i] ∧ H a = some (.tup xs) ∧ Q (.bl (decide (0 ≤ i) && decide (i < xs.length))) H
theorem scHouse : FnScope ["table", "thing"] ["table", "thing"] (defScope sHouse) := ⟨rfl, rfl, rfl, by decide +kernel, rfl, by decide +kernel, by decide +kernel⟩
theorem ok_house {f : Addr} {fd : FuncData} (F : Fun K "is_house" "is_house" sHouse f fd) (T : Txt K mg) (GB : Def P w K mg base "is_between" 2 ["thing", "least", "most"] spBetween) : FnOk P w K mg base CX0 3 f fd ["table", "thing"] (spHouse K) := by
  refine F.ok scHouse (fun vs H Q E h => ?_) (fun cdv A outer s H vs Q E hr h => ?_)
  · obtain ⟨a, xs, i, rfl, _⟩ := h
    rfl
  · obtain ⟨a, xs, i, rfl, ha, kk⟩ := h
    refine ⟨_, pss_one (ps_ret (pe_def GB hr (pa_cons (pv 1) (pa_cons pe_int (pa_cons (pe_op op_sub (pe_callB call_len_seq (by rfl) T.len PySem.boot_len (pa_cons (pv 0) pa_nil)) pe_int) pa_nil))))), ?_⟩
    refine ⟨_, rfl, _, rfl, a, xs, rfl, .inr (SqT.of ha), _, _, rfl, rfl, i, 0, _, rfl, ?_⟩
    rw [show decide (i ≤ (xs.length : Int) - 1) = decide (i < xs.length) by rw [decide_eq_decide]; omega]
    exact kk
/-- the number at place j of row i -/
noncomputable def ent (tb : List (List Int)) (i j : Nat) : Int := (tb.getD i []).getD j 0
noncomputable def rightsF (tb : List (List Int)) (h : Nat) : Int := ((List.range tb.length).map fun o => ent tb o h).sum - ((tb.getD h []).sum - ent tb h h)
theorem sq_ent {H : Hp} {a : Addr} {tb : List (List Int)} {n : Nat} (t : Tab H a tb) (wf : Sz n tb) {i : Nat} (hi : i < n) : ∃ (xs : List V) (r : Addr), H a = some (.tup xs) ∧ xs.length = n ∧ xs[i]? = some (.ref r) ∧ H r = some (.tup ((tb.getD i []).map V.int)) ∧ (tb.getD i []).length = n + 1 := by
  obtain ⟨rs, h1, h2⟩ := t
  obtain ⟨row, e1, e2⟩ := wf.row hi
  obtain ⟨r, e3, e4⟩ := L2.Paired.get2 h2 e1
  have eg : tb.getD i [] = row := by rw [List.getD, e1]; rfl
  refine ⟨_, r, h1, by rw [List.length_map, Paired.length h2, wf.1], by rw [List.getElem?_map, e3]; rfl, by rw [eg]; exact e4, by rw [eg]; exact e2⟩
theorem at_row {row : List Int} {n : Nat} (hl : row.length = n + 1) {j : Nat} (hj : j ≤ n) : (row.map V.int)[j]? = some (V.int (row.getD j 0)) := by
  have : j < row.length := by omega
  rw [List.getElem?_map, List.getElem?_eq_getElem this, getD_at _ _ this]; rfl
noncomputable def spRights (K : PySem.W.Frag) : Sp := fun vs H Q _ => ∃ (a : Addr) (tb : List (List Int)) (n : Nat) (i : Int), vs = [.ref a, .int i] ∧ Tab H a tb ∧ Sz n tb ∧ n ≤ 16 ∧ 0 ≤ i ∧ i < n ∧ ∀ H', Same H H' → Q (.int (rightsF tb i.toNat)) H'
theorem scRights : FnScope ["table", "house", "gained", "own", "spent"] ["table", "house"] (defScope sRights) := ⟨rfl, rfl, rfl, by decide +kernel, rfl, by decide +kernel, by decide +kernel⟩
theorem ok_rights {f : Addr} {fd : FuncData} (F : Fun K "rights" "rights" sRights f fd) (T : Txt K mg) (GH : Def P w K mg base "is_house" 3 ["table", "thing"] (spHouse K)) : FnOk P w K mg base CX0 4 f fd ["table", "house"] (spRights K) := by
  refine F.ok scRights (fun vs H Q E h => ?_) (fun cdv A outer s H vs Q E hr h => ?_)
  · obtain ⟨a, tb, n, i, rfl, _⟩ := h
    rfl
  · obtain ⟨a, tb, n, i, rfl, ht, wf, hn, h0, h1, kk⟩ := h
    obtain ⟨xs, r, ha, hxl, hxi, hri, hrl⟩ := sq_ent ht wf (i := i.toNat) (by omega)
    refine ⟨_, pss_cons (ps_if (pt_not (pt_val (pe_def GH hr (pa_cons (pv 0) (pa_cons (pv 1) pa_nil))))) pss_never pss_nil)
      (pss_cons (ps_set (i := 2) scRights.nd rfl (Or.inl rfl) (pe_callB (call_sum false rfl) (by rfl) T.sum boot_sum (pa_cons (pe_comp (N := ["table", "house", "gained", "own", "spent"]) (scE := defScope sRights) (N' := ["row", "house"]) (cap := [none, some 1]) rfl
        (pi_tup (pv 0)) (fun _ _ _ _ _ => pg_name (i := 0) (show (["row", "house"] : List Str).Nodup by decide +kernel) rfl (Or.inl rfl)) (fun _ _ _ _ _ => pe_ix (ix_tupK K) (pv 0) (pv 1) (fun _ _ => rfl))) pa_nil)))
      (pss_cons (ps_set (i := 3) scRights.nd rfl (Or.inl rfl) (pe_ix ix_tup (pv 0) (pv 1) (fun _ _ => rfl)))
      (pss_cons (ps_set (i := 4) scRights.nd rfl (Or.inl rfl) (pe_op op_sub (pe_callB (call_sum true rfl) (by rfl) T.sum boot_sum (pa_cons (pv 3) pa_nil)) (pe_ix ix_tup (pv 3) (pv 1) (fun _ _ => rfl))))
      (pss_one (ps_ret (pe_op op_sub (pv 2) (pv 4))))))), ?_⟩
    refine ⟨_, rfl, _, rfl, a, xs, i, rfl, ha, _, rfl, ?_⟩
    rw [show (decide (0 ≤ i) && decide (i < (xs.length : Int))) = true by rw [hxl]; simp [h0, h1]]
    refine iteF ?_
    refine ⟨_, rfl, a, rfl, ⟨xs, SqT.of ha⟩, ?_⟩
    refine comp_tup (xs := xs) [some (.int i)] (by rfl) ha (small64 (by omega)) (fun j y _ => y = .int (ent tb j i.toNat)) (fun _ _ _ _ _ h => h) ?_ ?_
    · intro j x H3 R hj s3 kk3
      have hj' : j < n := by have := (List.getElem?_eq_some_iff.mp hj).1; omega
      obtain ⟨xs', r', ha', _, hxj, hrj, hrlj⟩ := sq_ent ht wf hj'
      rw [ha] at ha'
      cases ha'
      rw [hxj] at hj
      cases hj
      refine ⟨_, rfl, _, rfl, r', _, _, _, rfl, rfl, SqT.of (s3 _ _ hrj), atI_int h0 (at_row hrlj (by omega)), ?_⟩
      exact kk3 _ H3 (Same.refl _) rfl
    · intro acc ys H3 s3 hacc h3 hy hF
      have eys : ys = ((List.range xs.length).map fun o => ent tb o i.toNat).map V.int := list_of (g := V.int) hy fun j y e => hF j y e
      rw [eys] at h3
      refine ⟨acc, _, rfl, SqL.of h3, ?_⟩
      have hri3 := s3 _ _ hri
      refine ⟨_, rfl, _, rfl, a, xs, _, _, rfl, rfl, SqT.of (s3 _ _ ha), atI_int h0 hxi, ?_⟩
      refine ⟨_, rfl, r, _, rfl, SqT.of hri3, _, rfl, _, rfl, r, _, _, _, rfl, rfl, SqT.of hri3, atI_int h0 (at_row hrl (by omega)), _, _, rfl, rfl, ?_⟩
      refine ⟨_, rfl, _, rfl, _, _, rfl, rfl, ?_⟩
      have := kk H3 s3
      unfold rightsF at this
      rw [wf.1, ← hxl] at this
      exact this
end

section
variable {P : Program} {w : World} {K : PySem.W.Frag} {mg : Str → Option Value} {base : Heap}
/-- the rows of a table, by place -/
theorem tab_rows {H : Hp} {a : Addr} {tb : List (List Int)} {n : Nat} (ht : Tab H a tb) (wf : Sz n tb) : ∃ xs : List V, H a = some (.tup xs) ∧ xs.length = n ∧ ∀ (j : Nat) x, xs[j]? = some x → ∃ r, j < n ∧ x = .ref r ∧ H r = some (.tup ((tb.getD j []).map V.int)) ∧ (tb.getD j []).length = n + 1 := by
  obtain ⟨rs, ha, pr⟩ := id ht
  have hxl : (rs.map V.ref).length = n := by rw [List.length_map, Paired.length pr, wf.1]
  refine ⟨_, ha, hxl, fun j x hj => ?_⟩
  have hj' : j < n := by have := (List.getElem?_eq_some_iff.mp hj).1; omega
  obtain ⟨xs', r', ha', _, hxj, hrj, hrlj⟩ := sq_ent ht wf hj'
  rw [ha] at ha'
  cases ha'
  rw [hxj] at hj
  cases hj
  exact ⟨r', hj', rfl, hrj, hrlj⟩
end

theorem int_at {r : List Int} {j : Nat} {x : V} (hx : (r.map V.int)[j]? = some x) : j < r.length ∧ x = V.int (r.getD j 0) := by
  have h1 : j < r.length := by have := (List.getElem?_eq_some_iff.mp hx).1; rw [List.length_map] at this; exact this
  refine ⟨h1, ?_⟩
  rw [List.getElem?_map, List.getElem?_eq_getElem h1] at hx
  rw [getD_at _ _ h1]
  exact (Option.some.inj hx).symm

theorem ixN_nat {n j : Nat} (h : j < n) : ixN n (j : Int) = some j := by
  unfold ixN
  rw [if_pos (by omega), if_pos (by omega)]; simp
theorem same_none {H H' : Hp} (s : Same H H') {a : Addr} (h : H' a = none) : H a = none := by
  cases e : H a with
  | none => rfl
  | some o => rw [s a o e] at h; cases h
/-! ### sums -/
noncomputable def upto (n : Nat) (f : Nat → Int) : Int := ((List.range n).map f).sum
theorem upto_succ (n : Nat) (f : Nat → Int) : upto (n + 1) f = upto n f + f n := by
  unfold upto
  rw [List.range_succ, List.map_append, List.sum_append]
  simp
theorem upto_congr {n : Nat} {f g : Nat → Int} (h : ∀ i, i < n → f i = g i) : upto n f = upto n g := by
  induction n with
  | zero => rfl
  | succ n ih => rw [upto_succ, upto_succ, ih fun i hi => h i (by omega), h n (by omega)]
theorem upto_add (n : Nat) (f g : Nat → Int) : upto n (fun i => f i + g i) = upto n f + upto n g := by
  induction n with
  | zero => rfl
  | succ n ih => rw [upto_succ, upto_succ, upto_succ, ih]; omega
theorem sum_upto (r : List Int) : r.sum = upto r.length (fun j => r.getD j 0) := by
  unfold upto
  congr 1
  apply List.ext_getElem?
  intro i
  by_cases hi : i < r.length
  · simp [hi]
  · rw [List.getElem?_eq_none (by omega), List.getElem?_eq_none (by simp; omega)]
theorem rightsF_eq {n h : Nat} {tb : List (List Int)} (z : Sz n tb) (hh : h < n) : rightsF tb h = upto n (fun o => ent tb o h) - (upto (n + 1) (fun j => ent tb h j) - ent tb h h) := by
  unfold rightsF
  rw [z.1, sum_upto (tb.getD h []), (z.getD hh).1]
  rfl
theorem upto_but (k h : Nat) (f : Nat → Int) : upto k (fun o => if o ≠ h then - f o else 0) = - upto k f + (if h < k then f h else 0) := by
  induction k with
  | zero => rfl
  | succ k ih =>
    rw [upto_succ, upto_succ, ih]
    by_cases e : k = h
    · subst e
      rw [if_neg (by omega), if_neg (by simp), if_pos (by omega)]; omega
    · rw [if_pos e]
      by_cases e2 : h < k
      · rw [if_pos e2, if_pos (by omega)]; omega
      · rw [if_neg e2, if_neg (by omega)]; omega
theorem upto_sub (n : Nat) (f g : Nat → Int) : upto n (fun i => f i - g i) = upto n f - upto n g := by
  induction n with
  | zero => rfl
  | succ n ih => rw [upto_succ, upto_succ, upto_succ, ih]; omega
theorem upto_zero (n : Nat) : upto n (fun _ => 0) = 0 := by
  induction n with
  | zero => rfl
  | succ n ih => rw [upto_succ, ih]; rfl
theorem upto_swap (n m : Nat) (f : Nat → Nat → Int) : upto n (fun i => upto m (f i)) = upto m (fun j => upto n fun i => f i j) := by
  induction n with
  | zero => exact (upto_zero m).symm
  | succ n ih =>
    rw [upto_succ, ih, ← upto_add]
    exact upto_congr fun i _ => (upto_succ _ _).symm
/-- what the house has, as the law reckons it -/
noncomputable def lrF (tb : List (List Int)) (h : Nat) (k : Nat) : Int := upto k fun o => ent tb o h + if o ≠ h then - ent tb h o else 0
theorem lrF_eq {n h : Nat} {tb : List (List Int)} (z : Sz n tb) (hh : h < n) : lrF tb h n - ent tb h n = rightsF tb h := by
  rw [rightsF_eq z hh, lrF, upto_add, upto_but n h fun o => ent tb h o, if_pos hh, upto_succ]; omega
noncomputable def stockF (n : Nat) (tb : List (List Int)) : Int := upto n (fun o => ent tb o o) - upto n (fun o => ent tb o n)
theorem rights_sum {n : Nat} {tb : List (List Int)} (z : Sz n tb) : upto n (rightsF tb) = stockF n tb := by
  rw [upto_congr fun h hh => rightsF_eq z hh, upto_sub, upto_sub, upto_swap n n fun h o => ent tb o h, upto_congr (f := fun i => upto (n + 1) fun j => ent tb i j) fun i _ => upto_succ n fun j => ent tb i j, upto_add, stockF]
  omega

section
variable {P : Program} {w : World} {K : PySem.W.Frag} {mg : Str → Option Value} {base : Heap}
noncomputable def spLRights (K : PySem.W.Frag) : Sp := fun vs H Q _ => ∃ (a : Addr) (tb : List (List Int)) (n : Nat) (i : Int), vs = [.ref a, .int i] ∧ Tab H a tb ∧ Sz n tb ∧ n ≤ 16 ∧ 0 ≤ i ∧ i < n ∧ Q (.int (rightsF tb i.toNat)) H
theorem scLRights : FnScope ["table", "house", "n", "total", "other"] ["table", "house"] (defScope sLRights) := ⟨rfl, rfl, rfl, by decide +kernel, rfl, by decide +kernel, by decide +kernel⟩
theorem ok_lrights {f : Addr} {fd : FuncData} (F : Fun K "_law_b_rights" "_law_b_rights" sLRights f fd) (T : Txt K mg) : FnOk P w K mg base CX0 1 f fd ["table", "house"] (spLRights K) := by
  refine F.ok scLRights (fun vs H Q E h => ?_) (fun cdv A outer s H vs Q E hr h => ?_)
  · obtain ⟨a, tb, n, i, rfl, _⟩ := h
    rfl
  · obtain ⟨a, tb, n, i, rfl, ht, wf, hn, h0, h1, kk⟩ := h
    obtain ⟨h, rfl⟩ := Int.eq_ofNat_of_zero_le h0
    have hh : h < n := by omega
    refine ⟨_, pss_cons (ps_set (i := 2) scLRights.nd rfl (Or.inl rfl) (pe_callB call_len_seq (by rfl) T.len PySem.boot_len (pa_cons (pv 0) pa_nil)))
      (pss_cons (ps_set (i := 3) scLRights.nd rfl (Or.inl rfl) pe_int)
      (pss_cons (ps_for PassesOwn.never rfl (pi_range1 rfl T.range (pa_cons (pv 2) pa_nil)) (pg_name (i := 4) scLRights.nd rfl (Or.inl rfl))
        (pss_cons (ps_set (i := 3) scLRights.nd rfl (Or.inl rfl) (pe_op op_add (pv 3) (pe_ix ix_tup (pe_ix ix_tup (pv 0) (pv 4) (fun _ _ => rfl)) (pv 1) (fun _ _ => rfl))))
        (pss_one (ps_if (pt_cmpR op_ne (pv 4) (pv 1) (nomark _)) (pss_one (ps_set (i := 3) scLRights.nd rfl (Or.inl rfl) (pe_op op_sub (pv 3) (pe_ix ix_tup (pe_ix ix_tup (pv 0) (pv 1) (fun _ _ => rfl)) (pv 4) (fun _ _ => rfl))))) pss_nil))))
      (pss_one (ps_ret (pe_op op_sub (pv 3) (pe_ix ix_tup (pe_ix ix_tup (pv 0) (pv 1) (fun _ _ => rfl)) (pv 2) (fun _ _ => rfl))))))), ?_⟩
    obtain ⟨xs, r, ha, hxl, hxi, hri, hrl⟩ := sq_ent ht wf hh
    refine ⟨_, rfl, a, xs, rfl, .inr (SqT.of ha), ?_⟩
    refine ⟨_, rfl, _, rfl, by omega, by omega, ?_⟩
    rw [hxl, Int.toNat_natCast]
    refine for_range (lo := 0) (n := n) (fun i σ H2 => ∃ (v : Option V), σ = [some (.ref a), some (.int h), some (.int n), some (.int (lrF tb h i)), v] ∧ H2 = H) ⟨none, rfl, rfl⟩ ?_ ?_
    · rintro o σ H2 ho ⟨v, rfl, rfl⟩
      obtain ⟨xs', r', ha', _, hxo, hro, hrlo⟩ := sq_ent ht wf ho
      rw [ha] at ha'
      cases ha'
      refine ⟨_, rfl, _, rfl, _, rfl, a, xs, _, _, rfl, rfl, SqT.of ha, atI_int (by omega) (by rw [show (0 + (o : Int)).toNat = o by omega]; exact hxo), _, rfl, r', _, _, _, rfl, rfl, SqT.of hro, atI_int (by omega) (at_row hrlo (by omega)), ?_⟩
      rw [Int.toNat_natCast]
      refine ⟨_, _, rfl, rfl, ?_⟩
      refine ⟨_, rfl, _, rfl, rfl, _, rfl, ?_⟩
      have step : lrF tb h (o + 1) = lrF tb h o + (ent tb o h + if o ≠ h then - ent tb h o else 0) := upto_succ _ _
      refine ite_tf (fun hb => ?_) (fun hb => ?_)
      · have hne : o ≠ h := fun e => by subst e; simp at hb
        rw [if_pos hne] at step
        refine ⟨_, rfl, _, rfl, _, rfl, a, xs, _, _, rfl, rfl, SqT.of ha, atI_nat hxi, _, rfl, r, _, _, _, rfl, rfl, SqT.of hri, atI_int (by omega) (by rw [show (0 + (o : Int)).toNat = o by omega]; exact at_row hrl (by omega)), ?_⟩
        refine ⟨_, _, rfl, rfl, ?_⟩
        refine ⟨some (.int (0 + (o : Int))), ?_, rfl⟩
        have e2 : lrF tb h (o + 1) = lrF tb h o + (tb.getD o []).getD h 0 - (tb.getD h []).getD o 0 := by
          rw [step]; unfold ent; omega
        rw [e2]
        rfl
      · have he : o = h := by
          by_cases e : o = h
          · exact e
          · exfalso
            have : (V.int (0 + (o : Int))) ≠ V.int h := fun z => by
              have z2 : 0 + (o : Int) = h := by injection z
              omega
            rw [decide_eq_false this] at hb
            cases hb
        rw [if_neg (by omega)] at step
        refine ⟨some (.int (0 + (o : Int))), ?_, rfl⟩
        have e2 : lrF tb h (o + 1) = lrF tb h o + (tb.getD o []).getD h 0 := by
          rw [step]; unfold ent; omega
        rw [e2]
        rfl
    · rintro σ H2 ⟨v, rfl, rfl⟩
      refine ⟨_, rfl, _, rfl, _, rfl, a, xs, _, _, rfl, rfl, SqT.of ha, atI_nat hxi, _, rfl, r, _, _, _, rfl, rfl, SqT.of hri, atI_int (by omega) (at_row hrl (by omega)), ?_⟩
      refine ⟨_, _, rfl, rfl, ?_⟩
      have e := lrF_eq wf hh
      simp only [Int.toNat_natCast] at kk ⊢
      rw [← e] at kk
      exact kk
end

theorem getD_nn' {r : List Int} (h : ∀ x ∈ r, (0 : Int) ≤ x) (j : Nat) : 0 ≤ r.getD j 0 := by
  by_cases hj : j < r.length
  · rw [getD_at _ _ hj]; exact h _ (List.getElem_mem hj)
  · simp [List.getD, hj]

section
variable {P : Program} {w : World} {K : PySem.W.Frag} {mg : Str → Option Value} {base : Heap}
theorem scLWhole : FnScope ["thing"] ["thing"] (defScope sLWhole) := ⟨rfl, rfl, rfl, by decide +kernel, rfl, by decide +kernel, by decide +kernel⟩
theorem ok_lwhole {f : Addr} {fd : FuncData} (F : Fun K "_law_b_whole" "_law_b_whole" sLWhole f fd) (T : Txt K mg) : FnOk P w K mg base CX0 1 f fd ["thing"] (spWhole K) := by
  refine F.ok scLWhole (fun vs H Q E h => ?_) (fun cdv A outer s H vs Q E hr h => ?_)
  · obtain ⟨x, t, b1, b2, rfl, _⟩ := h
    rfl
  · obtain ⟨x, t, b1, b2, rfl, ty, k1, k2, kk⟩ := h
    refine ⟨_, pss_one (ps_ret (pe_and (pe_callB call_isinst (by rfl) T.isi boot_isinstance (pa_cons (pv 0) (pa_cons (pe_bltn (v := .ty "int") (by rfl) T.int boot_int rfl) pa_nil)))
      (pe_one (pe_not (pe_callB call_isinst (by rfl) T.isi boot_isinstance (pa_cons (pv 0) (pa_cons (pe_bltn (v := .ty "bool") (by rfl) T.bool boot_bool rfl) pa_nil))))))), ?_⟩
    refine ⟨_, rfl, x, _, _, t, b1, rfl, rfl, ty, k1, b1, rfl, ?_⟩
    refine ite_tf (fun hb => ?_) (fun hb => ?_)
    · subst hb
      exact ⟨_, rfl, x, _, _, t, b2, rfl, rfl, ty, k2, b2, rfl, kk⟩
    · subst hb
      exact kk
end

/-! ### defs that may raise an exception with a dict -/
noncomputable def DefD (P : Program) (w : World) (K : PySem.W.Frag) (mg : Str → Option Value) (base : Heap) (name : Str) (k : Nat) (ps : List Str) (sp : Sp) : Prop :=
  ∃ (f : Addr) (fd : FuncData), FnOk P w K mg base (CXD P w) k f fd ps sp ∧ mg name = some (.ref f) ∧ PySem.W.keepIn K (.ref f) = true ∧ Binds K fd ps []
theorem At.defD {P : Program} {w : World} {K : PySem.W.Frag} {mg : Str → Option Value} {base : Heap} {name : Str} {st : Stmt} {ps : List Str} {f : Addr} {fd : FuncData} {k : Nat} {sp : Sp} (a : At K mg name st ps f fd) (G : FnOk P w K mg base (CXD P w) k f fd ps sp) : DefD P w K mg base name k ps sp :=
  ⟨f, fd, G, a.m, a.F.kp, a.b⟩
noncomputable def clsBody : Stmt → List Stmt
  | .ClassDef _ _ _ b _ _ _ _ _ _ _ => b
  | _ => []
noncomputable abbrev sInit : Stmt := (clsBody (top 15)).getD 0 (.Pass ⟨0, 0, 0, 0⟩)
/-- what is known of Short -/
structure ShortOk (K : PySem.W.Frag) (mg : Str → Option Value) (c0 cs fI : Addr) : Prop where
  m0 : mg "WharfError" = some (.ref c0)
  ms : mg "Short" = some (.ref cs)
  M : XMade K cs c0 fI
  L : XCall K c0
  S : XSet K cs c0 "had"
  G : XGet K cs "had"
  ex : PySem.W.exmOne K (.ref cs) (.ref cs) = some true
section
variable {P : Program} {w : World} {K : PySem.W.Frag} {mg : Str → Option Value} {base : Heap}
theorem scInit : FnScope ["self", "had"] ["self", "had"] (defScope sInit) := ⟨rfl, rfl, rfl, by decide +kernel, rfl, by decide +kernel, by decide +kernel⟩
theorem ok_init {f c0 cs : Addr} {fd : FuncData} (F : Fun K "__init__" "Short.__init__" sInit f fd) (O : ShortOk K mg c0 cs f) : FnOk P w K mg base CX0 1 f fd ["self", "had"] (spInit cs "had") := by
  refine F.ok scInit (fun vs H Q E h => ?_) (fun cdv A outer s H vs Q E hr h => ?_)
  · obtain ⟨x, v, rfl, _⟩ := h
    rfl
  · obtain ⟨x, v, rfl, hx, kk⟩ := h
    refine ⟨_, pss_cons (ps_expr (pe_xinit O.M O.L (by rfl) O.m0 (pa_cons (pv 0) (pa_cons pe_str pa_nil))))
      (pss_one (ps_xset (fun b z => absurd (show b ∈ ([] : List Addr) from z) (by simp)) O.S (pv 0) (pv 1))), ?_⟩
    exact ⟨_, rfl, x, _, rfl, hx, _, rfl, _, rfl, x, rfl, hx, kk⟩
/-! ### deeds -/
inductive Dd where
  | mk (h : Nat) (k : Int)
  | ld (h o : Nat) (k : Int)
  | us (h : Nat) (k : Int)
noncomputable def Dd.vals : Dd → List V
  | .mk h k => [.str "make", .int h, .int k]
  | .ld h o k => [.str "lend", .int h, .int o, .int k]
  | .us h k => [.str "use", .int h, .int k]
noncomputable def Dd.h : Dd → Nat
  | .mk h _ => h
  | .ld h _ _ => h
  | .us h _ => h
noncomputable def Dd.k : Dd → Int
  | .mk _ k => k
  | .ld _ _ k => k
  | .us _ k => k
noncomputable def Dd.pl (n : Nat) : Dd → Nat
  | .mk h _ => h
  | .ld _ o _ => o
  | .us _ _ => n
noncomputable def Dd.isM : Dd → Bool
  | .mk _ _ => true
  | _ => false
noncomputable def Dd.ok (n : Nat) : Dd → Prop
  | .mk h k => h < n ∧ 1 ≤ k
  | .ld h o k => h < n ∧ o < n ∧ o ≠ h ∧ 1 ≤ k
  | .us h k => h < n ∧ 1 ≤ k
theorem Dd.ok_h {n : Nat} {d : Dd} (o : d.ok n) : d.h < n := by cases d <;> exact o.1
theorem Dd.ok_k {n : Nat} {d : Dd} (o : d.ok n) : 1 ≤ d.k := by
  cases d with
  | mk h k => exact o.2
  | ld h q k => exact o.2.2.2
  | us h k => exact o.2
theorem Dd.ok_pl {n : Nat} {d : Dd} (o : d.ok n) : d.pl n ≤ n := by
  cases d with
  | mk h k => exact Nat.le_of_lt o.1
  | ld h q k => exact Nat.le_of_lt o.2.1
  | us h k => exact Nat.le_refl n
theorem kit_ss (K : PySem.W.Frag) : PySem.W.kitOne K (.type "str") (.type "str") = some true := by first | rfl | kernel_rfl
theorem kit_tt (K : PySem.W.Frag) : PySem.W.kitOne K (.type "tuple") (.type "tuple") = some true := by first | rfl | kernel_rfl
/-- the dict of the module -/
noncomputable def partsV (w : Str) : Option V := if w = "make" then some (.int 3) else if w = "lend" then some (.int 4) else if w = "use" then some (.int 3) else none
structure PartsOk (P : Program) (w : World) (K : PySem.W.Frag) (mg : Str → Option Value) : Prop where
  str : mg "str" = none
  ex : ∃ (a : Addr) (o : Obj) (es : Array DictEntry) (ep : Nat), mg "PARTS_OF_DEED" = some (.ref a) ∧ K.lookup a = some o ∧ o.cls = .type "dict" ∧ o.ExactDict ∧ o.data = .dict es ep ∧ KeysOf (mixKind P w) es ∧ (a == sysModules) = false ∧ ∀ x v, partsV x = some v → ∃ u, findBy (mixKind P w).is es (.inr x) = some u ∧ RelV v u
noncomputable def spIsDeed : Sp := fun vs H Q _ => ∃ (q : Addr) (d : Dd) (n : Nat), vs = [.ref q] ∧ H q = some (.tup d.vals) ∧ d.ok n ∧ ∀ H', Same H H' → Q (.bl true) H'
theorem scIsDeed : FnScope ["thing"] ["thing"] (defScope sIsDeed) := ⟨rfl, rfl, rfl, by decide +kernel, rfl, by decide +kernel, by decide +kernel⟩
theorem Dd.len (d : Dd) : 3 ≤ d.vals.length ∧ d.vals.length ≤ 4 := by cases d <;> simp [Dd.vals]
theorem Dd.last (d : Dd) : atI d.vals (-1) = some (.int d.k) := by cases d <;> rfl
theorem parts_make : partsV "make" = some (.int 3) := by decide +kernel
theorem parts_lend : partsV "lend" = some (.int 4) := by decide +kernel
theorem parts_use : partsV "use" = some (.int 3) := by decide +kernel
theorem Dd.first (d : Dd) : ∃ w, atI d.vals 0 = some (.str w) ∧ partsV w = some (.int d.vals.length) := by
  cases d with
  | mk h k => exact ⟨"make", rfl, parts_make⟩
  | ld h o k => exact ⟨"lend", rfl, parts_lend⟩
  | us h k => exact ⟨"use", rfl, parts_use⟩
theorem Dd.rest (d : Dd) : ∀ y ∈ cutV d.vals (some 1) none, ∃ i : Int, y = .int i := by
  cases d with
  | mk h k =>
    intro y hy
    have : y ∈ [V.int h, V.int k] := hy
    simp at this
    rcases this with rfl | rfl <;> exact ⟨_, rfl⟩
  | ld h o k =>
    intro y hy
    have : y ∈ [V.int h, V.int o, V.int k] := hy
    simp at this
    rcases this with rfl | rfl | rfl <;> exact ⟨_, rfl⟩
  | us h k =>
    intro y hy
    have : y ∈ [V.int h, V.int k] := hy
    simp at this
    rcases this with rfl | rfl <;> exact ⟨_, rfl⟩
theorem boot_str' : bootBuiltins "str" = some (.type "str") := by decide +kernel
theorem scTextNum : FnScope ["thing"] ["thing"] (defScope sTextNum) := ⟨rfl, rfl, rfl, by decide +kernel, rfl, by decide +kernel, by decide +kernel⟩
theorem ok_textnum {f : Addr} {fd : FuncData} (F : Fun K "is_text_and_numbers" "is_text_and_numbers" sTextNum f fd) (T : Txt K mg) (PO : PartsOk P w K mg) (GW : Def P w K mg base "is_whole" 1 ["thing"] (spWhole K)) : FnOk P w K mg base CX0 2 f fd ["thing"] spIsDeed := by
  refine F.ok scTextNum (fun vs H Q E h => ?_) (fun cdv A outer s H vs Q E hr h => ?_)
  · obtain ⟨q, d, n, rfl, _⟩ := h
    rfl
  · obtain ⟨q, d, n, rfl, hq, hok, kk⟩ := h
    refine jok ?_
    refine ⟨_, jss_cons ⟨ps_if (pw_or (pt_not (pt_val (pe_callB call_isinst (by rfl) T.isi boot_isinstance (pa_cons (pv 0) (pa_cons (pe_bltn (v := .ty "tuple") (by rfl) T.tuple boot_tuple rfl) pa_nil))))) (pw_or (pt_cmpR op_eq (pe_callB call_len_seq (by rfl) T.len PySem.boot_len (pa_cons (pv 0) pa_nil)) pe_int (nomark _))
        (pw_or1 (pt_not (pt_val (pe_callB call_isinst (by rfl) T.isi boot_isinstance (pa_cons (pe_ix ix_tup (pv 0) pe_int (fun _ _ => rfl)) (pa_cons (pe_bltn (v := .ty "str") (by rfl) PO.str boot_str' rfl) pa_nil)))))))).pt pss_never pss_nil⟩
      (jss_one ⟨ps_ret (pe_callB (call_all false rfl) (by rfl) T.all boot_all (pa_cons (pe_comp (N := ["thing"]) (scE := defScope sTextNum) (N' := ["part"]) (cap := [none]) rfl
        (pi_tup (pe_slice sl_tup (pv 0) (po_some pe_int) po_none)) (fun _ _ _ _ _ => pg_name (i := 0) (show (["part"] : List Str).Nodup by decide +kernel) rfl (Or.inl rfl)) (fun _ _ _ _ _ => pe_def GW hr (pa_cons (pv 0) pa_nil))) pa_nil))⟩), ?_⟩
    obtain ⟨x0, e0, p0⟩ := d.first
    have hl := d.len
    refine ⟨_, rfl, .ref q, _, _, _, true, rfl, rfl, TyOf.tup hq, kit_tt K, _, rfl, iteF ?_⟩
    refine ⟨_, rfl, q, _, rfl, .inr (SqT.of hq), rfl, _, rfl, ?_⟩
    rw [decide_eq_false (fun z => by have z2 : ((d.vals.length : Nat) : Int) = 0 := by injection z
                                     omega)]
    refine iteF ⟨_, rfl, q, _, _, _, rfl, rfl, SqT.of hq, e0, .str x0, _, _, _, true, rfl, rfl, TyOf.str x0, kit_ss K, _, rfl, iteF ?_⟩
    refine ⟨_, rfl, _, rfl, q, d.vals, rfl, SqT.of hq, ?_, fun p hp => ?_⟩
    · intro z
      have := z.1
      rw [show HT.sIx d.vals.length 0 (some 1) = min 1 d.vals.length from HT.sIx_nat _ _ 1] at this
      omega
    refine ⟨p, rfl, ⟨_, SqT.of upd_same⟩, ?_⟩
    refine comp_tup (xs := cutV d.vals (some 1) none) [] (by rfl) upd_same (small64 (Nat.le_trans (cutV_length _ _ _) (by omega))) (fun j y _ => y = .bl ((fun _ => true) j)) (fun _ _ _ _ _ h => h) ?_ ?_
    · intro j y H3 R hj s3 k3
      obtain ⟨i, rfl⟩ := d.rest y (List.mem_of_getElem? hj)
      exact ⟨_, rfl, .int i, _, true, false, rfl, TyOf.int i, T.ii, T.ib, k3 _ H3 (Same.refl _) rfl⟩
    · intro acc zs H3 s3 hacc h3 hz hF
      have ez : zs = ((List.range (cutV d.vals (some 1) none).length).map fun _ => true).map V.bl := list_of (g := V.bl) hz fun j y e => hF j y e
      rw [ez] at h3
      refine ⟨acc, _, rfl, SqL.of h3, ?_⟩
      rw [show List.all ((List.range (cutV d.vals (some 1) none).length).map fun _ => true) id = true by simp]
      have sH : Same H H3 := (same_new hp).trans s3
      exact kk H3 sH
theorem ok_isdeed {f : Addr} {fd : FuncData} (F : Fun K "is_deed" "is_deed" sIsDeed f fd) (T : Txt K mg) (PO : PartsOk P w K mg) (GW : Def P w K mg base "is_text_and_numbers" 2 ["thing"] spIsDeed) : FnOk P w K mg base CX0 3 f fd ["thing"] spIsDeed := by
  obtain ⟨pa, po, es, ep, pm, pl, pt, pe, pd, pk, ps, pv'⟩ := PO.ex
  refine F.ok scIsDeed (fun vs H Q E h => ?_) (fun cdv A outer s H vs Q E hr h => ?_)
  · obtain ⟨q, d, n, rfl, _⟩ := h
    rfl
  · obtain ⟨q, d, n, rfl, hq, hok, kk⟩ := h
    refine jok ?_
    refine ⟨_, jss_one ⟨ps_ret (pe_and (pe_def GW hr (pa_cons (pv 0) pa_nil)) (pe_and (pe_cmpR op_eq (pe_callB call_len_seq (by rfl) T.len PySem.boot_len (pa_cons (pv 0) pa_nil)) (pe_gget (val := partsV) (by rfl) pm pl pt pe pd pk ps pv' (pe_ix ix_tup (pv 0) pe_int (fun _ _ => rfl))) (nomark _))
        (pe_one (pe_cmpR op_ge (pe_ix ix_tup (pv 0) (pe_un un_neg pe_int) (fun _ _ => rfl)) pe_int (nomark _)))))⟩, ?_⟩
    obtain ⟨x0, e0, p0⟩ := d.first
    have hl := d.len
    refine ⟨_, rfl, q, d, n, rfl, hq, hok, fun H1 s1 => ?_⟩
    have hq1 := s1 _ _ hq
    refine ⟨_, rfl, iteT ?_⟩
    refine ⟨_, rfl, q, _, rfl, .inr (SqT.of hq1), _, rfl, q, _, _, _, rfl, rfl, SqT.of hq1, e0, x0, _, rfl, p0, rfl, ?_⟩
    refine ⟨_, rfl, ?_⟩
    rw [decide_eq_true rfl]
    refine iteT ⟨_, rfl, _, rfl, q, _, _, _, rfl, rfl, SqT.of hq1, d.last, _, _, rfl, rfl, ?_⟩
    show Q (.bl (decide (1 ≤ d.k))) H1
    rw [decide_eq_true (Dd.ok_k hok)]
    exact kk H1 s1
end

section
variable {P : Program} {w : World} {K : PySem.W.Frag} {mg : Str → Option Value} {base : Heap}
noncomputable def Dd.hs : Dd → List V
  | .mk h _ => [.int h]
  | .ld h o _ => [.int h, .int o]
  | .us h _ => [.int h]
theorem Dd.mid (d : Dd) : cutV d.vals (some 1) (some (-1)) = d.hs := by cases d <;> rfl
theorem Dd.hs_in {n : Nat} {d : Dd} (o : d.ok n) : ∀ y ∈ d.hs, ∃ j : Nat, j < n ∧ y = .int j := by
  cases d with
  | mk h k =>
    intro y hy
    exact ⟨h, o.1, by simpa [Dd.hs] using hy⟩
  | ld h q k =>
    intro y hy
    simp [Dd.hs] at hy
    rcases hy with rfl | rfl
    · exact ⟨h, o.1, rfl⟩
    · exact ⟨q, o.2.1, rfl⟩
  | us h k =>
    intro y hy
    exact ⟨h, o.1, by simpa [Dd.hs] using hy⟩
noncomputable def spNeedH : Sp := fun vs H Q _ => ∃ (a q : Addr) (xs : List V) (d : Dd), vs = [.ref a, .ref q] ∧ H a = some (.tup xs) ∧ H q = some (.tup d.vals) ∧ d.ok xs.length ∧ ∀ H', Same H H' → Q .non H'
theorem scNeedH : FnScope ["table", "deed", "houses"] ["table", "deed"] (defScope sNeedH) := ⟨rfl, rfl, rfl, by decide +kernel, rfl, by decide +kernel, by decide +kernel⟩
theorem ok_needH {f : Addr} {fd : FuncData} (F : Fun K "need_houses_of_deed" "need_houses_of_deed" sNeedH f fd) (T : Txt K mg) (GH : Def P w K mg base "is_house" 3 ["table", "thing"] (spHouse K)) : FnOk P w K mg base CX0 4 f fd ["table", "deed"] spNeedH := by
  refine F.ok scNeedH (fun vs H Q E h => ?_) (fun cdv A outer s H vs Q E hr h => ?_)
  · obtain ⟨a, q, xs, d, rfl, _⟩ := h
    rfl
  · obtain ⟨a, q, xs, d, rfl, ha, hq, hok, kk⟩ := h
    refine jok ?_
    refine ⟨_, jss_cons ⟨ps_set (i := 2) scNeedH.nd rfl (Or.inl rfl) (pe_slice sl_tup (pv 1) (po_some pe_int) (po_some (pe_un un_neg pe_int)))⟩
      (jss_cons ⟨ps_if (pt_not (pt_val (pe_callB (call_all false rfl) (by rfl) T.all boot_all (pa_cons (pe_comp (N := ["table", "deed", "houses"]) (scE := defScope sNeedH) (N' := ["house", "table"]) (cap := [none, some 0]) rfl
        (pi_tup (pv 2)) (fun _ _ _ _ _ => pg_name (i := 0) (show (["house", "table"] : List Str).Nodup by decide +kernel) rfl (Or.inl rfl)) (fun _ _ _ _ _ => pe_def GH hr (pa_cons (pv 1) (pa_cons (pv 0) pa_nil)))) pa_nil)))) pss_never pss_nil⟩
      (jss_one ⟨ps_if (pw_and (pt_cmpR op_eq (pe_ix ix_tup (pv 1) pe_int (fun _ _ => rfl)) pe_str (nomark _)) (pw_and1 (pt_cmpR op_eq (pe_ix ix_tup (pv 2) pe_int (fun _ _ => rfl)) (pe_ix ix_tup (pv 2) pe_int (fun _ _ => rfl)) (nomark _)))).pt pss_never pss_nil⟩)), ?_⟩
    have hl := d.len
    refine ⟨_, rfl, _, rfl, _, rfl, _, rfl, q, d.vals, rfl, SqT.of hq, ?_, fun p hp => ?_⟩
    · intro z
      have := z.1
      rw [show HT.sIx d.vals.length 0 (some 1) = min 1 d.vals.length from HT.sIx_nat _ _ 1] at this
      omega
    have em : cutV d.vals (some 1) (some (-1)) = d.hs := d.mid
    rw [em]
    have u1 := same_new (o := .tup d.hs) hp
    have hl2 : d.hs.length ≤ 2 := by cases d <;> simp [Dd.hs]
    refine ⟨_, rfl, p, rfl, ⟨_, SqT.of upd_same⟩, ?_⟩
    refine comp_tup (xs := d.hs) [some (.ref a)] (by rfl) upd_same (small64 (by omega)) (fun j y _ => y = .bl ((fun _ => true) j)) (fun _ _ _ _ _ h => h) ?_ ?_
    · intro j y H3 R hj s3 k3
      obtain ⟨i, hi, rfl⟩ := Dd.hs_in hok y (List.mem_of_getElem? hj)
      refine ⟨_, rfl, _, rfl, a, xs, _, rfl, s3 _ _ (u1 _ _ ha), k3 _ H3 (Same.refl _) ?_⟩
      rw [decide_eq_true (show (0 : Int) ≤ i by omega), decide_eq_true (show (i : Int) < xs.length by omega)]
      rfl
    intro acc zs H3 s3 hacc h3 hz hF
    have ez : zs = ((List.range d.hs.length).map fun _ => true).map V.bl := list_of (g := V.bl) hz fun j y e => hF j y e
    rw [ez] at h3
    refine ⟨acc, _, rfl, SqL.of h3, _, rfl, ?_⟩
    rw [show List.all ((List.range d.hs.length).map fun _ => true) id = true by simp]
    refine iteF ?_
    have sH : Same H H3 := u1.trans s3
    have hq3 := sH _ _ hq
    have hp3 := s3 p _ upd_same
    cases d with
    | mk h k => exact ⟨_, rfl, q, _, _, _, rfl, rfl, SqT.of hq3, rfl, rfl, _, rfl, iteF (kk H3 sH)⟩
    | us h k => exact ⟨_, rfl, q, _, _, _, rfl, rfl, SqT.of hq3, rfl, rfl, _, rfl, iteF (kk H3 sH)⟩
    | ld h o k =>
      refine ⟨_, rfl, q, _, _, _, rfl, rfl, SqT.of hq3, rfl, rfl, _, rfl, iteT ?_⟩
      refine ⟨_, rfl, p, _, _, _, rfl, rfl, SqT.of hp3, rfl, _, rfl, p, _, _, _, rfl, rfl, SqT.of hp3, rfl, rfl, _, rfl, ?_⟩
      rw [decide_eq_false (fun z => hok.2.2.1 (by have z2 : (h : Int) = (o : Int) := by injection z
                                                  omega))]
      exact iteF (kk H3 sH)
noncomputable def spPlace : Sp := fun vs H Q _ => ∃ (a q : Addr) (xs : List V) (d : Dd), vs = [.ref a, .ref q] ∧ H a = some (.tup xs) ∧ H q = some (.tup d.vals) ∧ Q (.int (d.pl xs.length)) H
theorem scPlace : FnScope ["table", "deed"] ["table", "deed"] (defScope sPlace) := ⟨rfl, rfl, rfl, by decide +kernel, rfl, by decide +kernel, by decide +kernel⟩
theorem ok_place {f : Addr} {fd : FuncData} (F : Fun K "place_in_row" "place_in_row" sPlace f fd) (T : Txt K mg) : FnOk P w K mg base CX0 1 f fd ["table", "deed"] spPlace := by
  refine F.ok scPlace (fun vs H Q E h => ?_) (fun cdv A outer s H vs Q E hr h => ?_)
  · obtain ⟨a, q, xs, d, rfl, _⟩ := h
    rfl
  · obtain ⟨a, q, xs, d, rfl, ha, hq, kk⟩ := h
    refine ⟨_, pss_cons (ps_if (pt_cmpR op_eq (pe_ix ix_tup (pv 1) pe_int (fun _ _ => rfl)) pe_str (nomark _)) (pss_one (ps_ret (pe_ix ix_tup (pv 1) pe_int (fun _ _ => rfl)))) pss_nil)
      (pss_cons (ps_if (pt_cmpR op_eq (pe_ix ix_tup (pv 1) pe_int (fun _ _ => rfl)) pe_str (nomark _)) (pss_one (ps_ret (pe_ix ix_tup (pv 1) pe_int (fun _ _ => rfl)))) pss_nil)
      (pss_one (ps_ret (pe_callB call_len_seq (by rfl) T.len PySem.boot_len (pa_cons (pv 0) pa_nil))))), ?_⟩
    cases d with
    | mk h k => exact ⟨_, rfl, q, _, _, _, rfl, rfl, SqT.of hq, rfl, rfl, _, rfl, iteT ⟨_, rfl, q, _, _, _, rfl, rfl, SqT.of hq, rfl, kk⟩⟩
    | ld h o k => exact ⟨_, rfl, q, _, _, _, rfl, rfl, SqT.of hq, rfl, rfl, _, rfl, iteF ⟨_, rfl, q, _, _, _, rfl, rfl, SqT.of hq, rfl, rfl, _, rfl, iteT ⟨_, rfl, q, _, _, _, rfl, rfl, SqT.of hq, rfl, kk⟩⟩⟩
    | us h k => exact ⟨_, rfl, q, _, _, _, rfl, rfl, SqT.of hq, rfl, rfl, _, rfl, iteF ⟨_, rfl, q, _, _, _, rfl, rfl, SqT.of hq, rfl, rfl, _, rfl, iteF ⟨_, rfl, a, xs, rfl, .inr (SqT.of ha), kk⟩⟩⟩
end

section
variable {P : Program} {w : World} {K : PySem.W.Frag} {mg : Str → Option Value} {base : Heap}
noncomputable def raiseF (tb : List (List Int)) (h p : Nat) (k : Int) : List (List Int) := tb.set h ((tb.getD h []).set p (ent tb h p + k))
theorem set_cut {α : Type} (xs : List α) {j : Nat} (v : α) (h : j < xs.length) : xs.take j ++ [v] ++ xs.drop (j + 1) = xs.set j v := by
  rw [List.set_eq_take_append_cons_drop, if_pos h]; simp
theorem cutTo {xs : List V} {j : Nat} (h : j ≤ xs.length) : cutV xs none (some (j : Int)) = xs.take j := by
  unfold cutV
  rw [HT.sIx_nat, HT.sIx_none, Nat.min_eq_left h]
  simp
theorem cutFrom {xs : List V} {k : Nat} (h : k ≤ xs.length) : cutV xs (some (k : Int)) none = xs.drop k := by
  unfold cutV
  rw [HT.sIx_nat, HT.sIx_none, Nat.min_eq_left h]
  exact List.take_of_length_le (by simp)
noncomputable def spRaised : Sp := fun vs H Q _ => ∃ (a : Addr) (tb : List (List Int)) (n h p : Nat) (k : Int), vs = [.ref a, .int h, .int p, .int k] ∧ Tab H a tb ∧ Sz n tb ∧ n ≤ 16 ∧ h < n ∧ p ≤ n ∧ ∀ (q : Addr) H', Same H H' → Tab H' q (raiseF tb h p k) → Q (.ref q) H'
noncomputable abbrev nRs : List Str := ["table", "house", "place", "k", "row", "higher"]
theorem scRaised : FnScope nRs ["table", "house", "place", "k"] (defScope sRaised) := ⟨rfl, rfl, rfl, by decide +kernel, rfl, by decide +kernel, by decide +kernel⟩
theorem ok_raised {f : Addr} {fd : FuncData} (F : Fun K "raised" "raised" sRaised f fd) : FnOk P w K mg base CX0 1 f fd ["table", "house", "place", "k"] spRaised := by
  refine F.ok scRaised (fun vs H Q E h => ?_) (fun cdv A outer s H vs Q E hr h => ?_)
  · obtain ⟨a, tb, n, h, p, k, rfl, _⟩ := h
    rfl
  · obtain ⟨a, tb, n, h, p, k, rfl, ht, zt, hn, hh, hp, kk⟩ := h
    refine jok ?_
    refine ⟨_, jss_cons ⟨ps_set (i := 4) scRaised.nd rfl (Or.inl rfl) (pe_ix ix_tup (pv 0) (pv 1) (fun _ _ => rfl))⟩
      (jss_cons ⟨ps_set (i := 5) scRaised.nd rfl (Or.inl rfl) (pe_op op_cat2 (pe_op op_cat2 (pe_slice sl_tup (pv 4) po_none (po_some (pv 2))) (pe_tup (pa_cons (pe_op op_add (pe_ix ix_tup (pv 4) (pv 2) (fun _ _ => rfl)) (pv 3)) pa_nil))) (pe_slice sl_tup (pv 4) (po_some (pe_op op_add (pv 2) pe_int)) po_none))⟩
      (jss_one ⟨ps_ret (pe_op op_cat2 (pe_op op_cat2 (pe_slice sl_tup (pv 0) po_none (po_some (pv 1))) (pe_tup (pa_cons (pv 5) pa_nil))) (pe_slice sl_tup (pv 0) (po_some (pe_op op_add (pv 1) pe_int)) po_none))⟩)), ?_⟩
    obtain ⟨xs, r, ha, hxl, hxi, hr', hrl⟩ := sq_ent ht zt hh
    have hR : ((tb.getD h []).map V.int).length = n + 1 := by rw [List.length_map]; exact hrl
    refine ⟨_, rfl, _, rfl, a, xs, _, _, rfl, rfl, SqT.of ha, atI_nat hxi, ?_⟩
    refine ⟨_, rfl, _, rfl, _, rfl, r, _, rfl, SqT.of hr', ?_, fun p1 h1 => ?_⟩
    · intro z
      have := z.2
      rw [HT.sIx_nat, Nat.min_eq_left (by omega)] at this
      omega
    rw [cutTo (by omega)]
    have u1 := same_new (o := .tup (((tb.getD h []).map V.int).take p)) h1
    refine ⟨_, rfl, _, rfl, r, _, _, _, rfl, rfl, SqT.of (u1 _ _ hr'), atI_nat (at_row hrl hp), _, rfl, _, _, rfl, rfl, (show 1 ≤ sizeLine by decide), fun p2 h2 => ?_⟩
    have u2 := same_new (o := .tup [V.int ((tb.getD h []).getD p 0 + k)]) h2
    refine cat_step (u2 _ _ upd_same) upd_same (.inr (by simp)) (by rw [List.length_take]; simp; omega) fun p3 H3 s3 h3 => ?_
    have t3 := (u1.trans u2).trans s3
    refine ⟨_, rfl, _, rfl, _, _, rfl, rfl, _, rfl, r, _, rfl, SqT.of (t3 _ _ hr'), ?_, fun p4 h4 => ?_⟩
    · intro z
      have := z.1
      rw [show ((p : Int) + 1) = ((p + 1 : Nat) : Int) by omega, HT.sIx_nat] at this
      omega
    rw [show ((p : Int) + 1) = ((p + 1 : Nat) : Int) by omega, cutFrom (by omega)]
    have u4 := same_new (o := .tup (((tb.getD h []).map V.int).drop (p + 1))) h4
    refine cat_step (u4 _ _ h3) upd_same (.inl (by simp)) (by rw [List.length_append, List.length_take, List.length_drop, List.length_singleton, hR]; omega) fun p5 H5 s5 h5 => ?_
    rw [set_cut _ _ (by omega)] at h5
    have t5 := (t3.trans u4).trans s5
    have erow : ((tb.getD h []).map V.int).set p (V.int ((tb.getD h []).getD p 0 + k)) = ((tb.getD h []).set p (ent tb h p + k)).map V.int := by
      rw [List.map_set]; rfl
    rw [erow] at h5
    refine ⟨_, rfl, _, rfl, _, rfl, a, xs, rfl, SqT.of (t5 _ _ ha), ?_, fun q1 g1 => ?_⟩
    · intro z
      have := z.2
      rw [HT.sIx_nat, Nat.min_eq_left (by omega)] at this
      omega
    rw [cutTo (by omega)]
    have w1 := same_new (o := .tup (xs.take h)) g1
    refine ⟨_, rfl, (show 1 ≤ sizeLine by decide), fun q2 g2 => ?_⟩
    have w2 := same_new (o := .tup [V.ref p5]) g2
    refine cat_step (w2 _ _ upd_same) upd_same (.inr (by simp)) (by rw [List.length_take]; simp; omega) fun q3 H7 s7 g3 => ?_
    have t7 := ((t5.trans w1).trans w2).trans s7
    refine ⟨_, rfl, _, rfl, _, _, rfl, rfl, _, rfl, a, xs, rfl, SqT.of (t7 _ _ ha), ?_, fun q4 g4 => ?_⟩
    · intro z
      have := z.1
      rw [show ((h : Int) + 1) = ((h + 1 : Nat) : Int) by omega, HT.sIx_nat] at this
      omega
    rw [show ((h : Int) + 1) = ((h + 1 : Nat) : Int) by omega, cutFrom (by omega)]
    have w4 := same_new (o := .tup (xs.drop (h + 1))) g4
    refine cat_step (w4 _ _ g3) upd_same (.inl (by simp)) (by rw [List.length_append, List.length_take, List.length_drop]; simp; omega) fun q5 H9 s9 g5 => ?_
    rw [set_cut _ _ (by omega)] at g5
    have t9 := (t7.trans w4).trans s9
    refine kk q5 H9 t9 (tab_of g5 (by simp [raiseF, hxl, zt.1]) fun i y e => ?_)
    have h5' : H9 p5 = some (.tup (((tb.getD h []).set p (ent tb h p + k)).map V.int)) := (((w1.trans w2).trans s7).trans w4).trans s9 _ _ h5
    by_cases hi : i = h
    · subst hi
      rw [List.getElem?_set_self (by omega)] at e
      cases e
      exact ⟨p5, _, rfl, by unfold raiseF; rw [List.getElem?_set_self (by rw [zt.1]; exact hh)], h5'⟩
    · rw [List.getElem?_set_ne (Ne.symm hi)] at e
      have hi' : i < n := by have := (List.getElem?_eq_some_iff.mp e).1; omega
      obtain ⟨xs', r', ha', _, hx', hr2, hl2⟩ := sq_ent ht zt hi'
      rw [ha] at ha'
      cases ha'
      rw [hx'] at e
      cases e
      refine ⟨r', _, rfl, ?_, t9 _ _ hr2⟩
      unfold raiseF
      rw [List.getElem?_set_ne (Ne.symm hi)]
      exact (zt.getD hi').2
end

section
variable {P : Program} {w : World} {K : PySem.W.Frag} {mg : Str → Option Value} {base : Heap}
noncomputable def spDone (cs : Addr) : Sp := fun vs H Q E => ∃ (a q : Addr) (tb : List (List Int)) (n : Nat) (d : Dd), vs = [.ref a, .ref q] ∧ Tab H a tb ∧ Sz n tb ∧ n ≤ 16 ∧ H q = some (.tup d.vals) ∧ d.ok n ∧
  (((d.isM = true ∨ d.k ≤ rightsF tb d.h) ∧ ∀ (p : Addr) H', Same H H' → Tab H' p (raiseF tb d.h (d.pl n) d.k) → Q (.ref p) H') ∨
   (d.isM = false ∧ rightsF tb d.h < d.k ∧ ∀ (dx : Addr) H', Same H H' → H' dx = some (.xd [("had", .int (rightsF tb d.h))]) → E (.ref cs) (some dx) H'))
noncomputable abbrev nDn : List Str := ["table", "deed", "house", "k", "had"]
theorem scDone : FnScope nDn ["table", "deed"] (defScope sDone) := ⟨rfl, rfl, rfl, by decide +kernel, rfl, by decide +kernel, by decide +kernel⟩
theorem Dd.at1 (d : Dd) : atI d.vals 1 = some (.int d.h) := by cases d <;> rfl
theorem ok_done {f c0 cs fI : Addr} {fd fdI : FuncData} (F : Fun K "done" "done" sDone f fd) (O : ShortOk K mg c0 cs fI) (II : FnOk P w K mg base CX0 1 fI fdI ["self", "had"] (spInit cs "had")) (bI : Binds K fdI ["self", "had"] [])
    (GD : Def P w K mg base "is_deed" 3 ["thing"] spIsDeed) (GN : Def P w K mg base "need_houses_of_deed" 4 ["table", "deed"] spNeedH) (GR : Def P w K mg base "rights" 4 ["table", "house"] (spRights K)) (GS : Def P w K mg base "raised" 1 ["table", "house", "place", "k"] spRaised) (GP : Def P w K mg base "place_in_row" 1 ["table", "deed"] spPlace) :
    FnOk P w K mg base (CXD P w) 5 f fd ["table", "deed"] (spDone cs) := by
  refine F.okD scDone (fun vs H Q E h => ?_) (fun cdv A outer s H vs Q E hr h => ?_)
  · obtain ⟨a, q, tb, n, d, rfl, _⟩ := h
    rfl
  · obtain ⟨a, q, tb, n, d, rfl, ht, zt, hn, hq, hok, hk⟩ := h
    have r1 : Room 1 _ := hr.mono (by decide)
    have r2 : Room 2 _ := hr.mono (by decide)
    have r3 : Room 3 _ := hr.mono (by decide)
    refine jok ?_
    refine ⟨_, jss_cons ⟨ps_if (pt_not (pt_val (pe_def GD r3 (pa_cons (pv 1) pa_nil)))) pss_never pss_nil⟩
      (jss_cons ⟨ps_expr (pe_def GN hr (pa_cons (pv 0) (pa_cons (pv 1) pa_nil)))⟩
      (jss_cons ⟨ps_set (i := 2) scDone.nd rfl (Or.inl rfl) (pe_ix ix_tup (pv 1) pe_int (fun _ _ => rfl))⟩
      (jss_cons ⟨ps_set (i := 3) scDone.nd rfl (Or.inl rfl) (pe_ix ix_tup (pv 1) (pe_un un_neg pe_int) (fun _ _ => rfl))⟩
      (jss_cons ⟨ps_if (pt_cmpR op_ne (pe_ix ix_tup (pv 1) pe_int (fun _ _ => rfl)) pe_str (nomark _))
        (pss_cons (ps_set (i := 4) scDone.nd rfl (Or.inl rfl) (pe_def GR hr (pa_cons (pv 0) (pa_cons (pv 2) pa_nil))))
        (pss_one (ps_if (pt_cmpR op_lt (pv 4) (pv 3) (nomark _)) (pss_one (ps_raiseI rfl raiseDok O.M II r2 bI (by rfl) O.ms (pa_cons (pv 4) pa_nil))) pss_nil))) pss_nil⟩
      (jss_one ⟨ps_ret (pe_def GS r1 (pa_cons (pv 0) (pa_cons (pv 2) (pa_cons (pe_def GP r1 (pa_cons (pv 0) (pa_cons (pv 1) pa_nil))) (pa_cons (pv 3) pa_nil)))))⟩))))), ?_⟩
    obtain ⟨xs, ha, hxl, _⟩ := tab_rows ht zt
    have hh := Dd.ok_h hok
    refine ⟨_, rfl, q, d, n, rfl, hq, hok, fun H1 s1 => ⟨_, rfl, iteF ?_⟩⟩
    refine ⟨_, rfl, _, rfl, a, q, xs, d, rfl, s1 _ _ ha, s1 _ _ hq, by rw [hxl]; exact hok, fun H2 s2 => ?_⟩
    have t2 := s1.trans s2
    have hq2 := t2 _ _ hq
    refine ⟨_, rfl, q, _, _, _, rfl, rfl, SqT.of hq2, d.at1, ?_⟩
    refine ⟨_, rfl, _, rfl, q, _, _, _, rfl, rfl, SqT.of hq2, d.last, ?_⟩
    -- the last step
    have fin : ∀ H3 (v : Option V), Same H H3 → (∀ (p : Addr) H', Same H H' → Tab H' p (raiseF tb d.h (d.pl n) d.k) → Q (.ref p) H') →
        (tRet (tCall spRaised [] E0 (tCons (tVar 0) (tCons (tVar 2) (tCons (tCall spPlace [] E0 (tCons (tVar 0) (tCons (tVar 1) tNil))) (tCons (tVar 3) tNil)))))) { nx := fun _ H' => Q .non H', rt := Q } [some (.ref a), some (.ref q), some (.int d.h), some (.int d.k), v] H3 := fun H3 v s3 kk => by
      refine ⟨_, rfl, _, rfl, _, rfl, _, rfl, a, q, xs, d, rfl, s3 _ _ ha, s3 _ _ hq, ?_⟩
      refine ⟨_, rfl, a, tb, n, d.h, d.pl xs.length, d.k, rfl, ht.keeps s3.t, zt, hn, hh, by rw [hxl]; exact Dd.ok_pl hok, fun p H4 s4 h4 => kk p H4 (s3.trans s4) ?_⟩
      rw [hxl] at h4
      exact h4
    obtain ⟨e0, ee0, hne⟩ : ∃ e0 : Str, atI d.vals 0 = some (.str e0) ∧ (!decide (V.str e0 = V.str "make")) = !d.isM := by
      cases d with
      | mk h k => exact ⟨"make", rfl, rfl⟩
      | ld h o k => exact ⟨"lend", rfl, by show (!decide (V.str "lend" = V.str "make")) = true; decide +kernel⟩
      | us h k => exact ⟨"use", rfl, by show (!decide (V.str "use" = V.str "make")) = true; decide +kernel⟩
    refine ⟨_, rfl, q, _, _, _, rfl, rfl, SqT.of hq2, ee0, rfl, _, rfl, ?_⟩
    rw [hne]
    cases em : d.isM with
    | true =>
      refine iteF ?_
      rcases hk with ⟨_, kk⟩ | ⟨z, _⟩
      · exact fin H2 none t2 kk
      · rw [em] at z; cases z
    | false =>
      refine iteT ?_
      refine ⟨_, rfl, _, rfl, a, tb, n, d.h, rfl, ht.keeps t2.t, zt, hn, by omega, by omega, fun H3 s3 => ?_⟩
      rw [Int.toNat_natCast]
      have t3 := t2.trans s3
      refine ⟨_, rfl, _, rfl, _, _, rfl, rfl, _, rfl, ?_⟩
      rcases hk with ⟨z, kk⟩ | ⟨_, lt, kE⟩
      · have le : d.k ≤ rightsF tb d.h := by
          rcases z with z | z
          · rw [em] at z; cases z
          · exact z
        rw [decide_eq_false (show ¬ rightsF tb d.h < d.k by omega)]
        exact iteF (fin H3 _ t3 kk)
      · rw [decide_eq_true lt]
        exact iteT ⟨_, rfl, _, rfl, fun dx hdx => kE dx _ (t3.trans (same_new hdx)) upd_same⟩
end

/-! ### the classes of the refusals -/
structure Nms (mg : Str → Option Value) (c : Nat → Addr) : Prop where
  m0 : mg "WharfError" = some (.ref (c 0))
  m1 : mg "NoTable" = some (.ref (c 1))
  m2 : mg "NoHouse" = some (.ref (c 2))
  m3 : mg "NoDeed" = some (.ref (c 3))
  m4 : mg "NoLetter" = some (.ref (c 4))
  m5 : mg "NoStand" = some (.ref (c 5))
  m6 : mg "NoRoad" = some (.ref (c 6))
  m7 : mg "NoPlan" = some (.ref (c 7))
  m8 : mg "NoBook" = some (.ref (c 8))
  m9 : mg "NoManner" = some (.ref (c 9))
  m10 : mg "TooMany" = some (.ref (c 10))
  m11 : mg "NoText" = some (.ref (c 11))
  m12 : mg "NoRow" = some (.ref (c 12))
  m13 : mg "NoName" = some (.ref (c 13))
  m14 : mg "Short" = some (.ref (c 14))
  ve : mg "ValueError" = none
theorem boot_ValueError : bootBuiltins "ValueError" = some (.type "ValueError") := by decide +kernel

section
variable {P : Program} {w : World} {K : PySem.W.Frag} {mg : Str → Option Value} {base : Heap}
structure TgtS (K : PySem.W.Frag) (c : Nat → Addr) (t : Nat) : Prop where
  xc : XCls K (c t)
  ve : PySem.W.kitOne K (.ref (c t)) (.type "ValueError") = some true
  ex : PySem.W.exmOne K (.ref (c t)) (.ref (c 0)) = some true
  k : ∀ i, 1 ≤ i → i ≤ 14 → PySem.W.kitOne K (.ref (c t)) (.ref (c i)) = some (decide (i = t))
noncomputable def spTold : Sp := fun vs H Q _ => ∃ (a q : Addr) (tb : List (List Int)) (n : Nat) (d : Dd), vs = [.ref a, .ref q] ∧ Tab H a tb ∧ Sz n tb ∧ n ≤ 16 ∧ H q = some (.tup d.vals) ∧ d.ok n ∧
  (((d.isM = true ∨ d.k ≤ rightsF tb d.h) ∧ ∀ (p : Addr) H', Same H H' → Tab H' p (raiseF tb d.h (d.pl n) d.k) → Q (.ref p) H') ∨ (d.isM = false ∧ rightsF tb d.h < d.k ∧ ∀ H', Same H H' → Q (.int (rightsF tb d.h)) H'))
theorem scTold : FnScope ["table", "deed", "told", "e"] ["table", "deed"] (defScope sTold) := ⟨rfl, rfl, rfl, by decide +kernel, rfl, by decide +kernel, by decide +kernel⟩
theorem ok_told {f c0 cs fI : Addr} {fd : FuncData} (F : Fun K "_law_b_told" "_law_b_told" sTold f fd) (O : ShortOk K mg c0 cs fI) (GD : DefD P w K mg base "done" 5 ["table", "deed"] (spDone cs)) : FnOk P w K mg base CX0 6 f fd ["table", "deed"] spTold := by
  obtain ⟨fR, fdR, FR, mR, kR, bR⟩ := GD
  refine F.ok scTold (fun vs H Q E h => ?_) (fun cdv A outer s H vs Q E hr h => ?_)
  · obtain ⟨a, q, tb, n, d, rfl, _⟩ := h
    rfl
  · obtain ⟨a, q, tb, n, d, rfl, ht, zt, hn, hq, hok, hk⟩ := h
    refine ⟨_, pss_cons (ps_set (i := 2) scTold.nd rfl (Or.inl rfl) pe_non)
      (pss_cons (ps_tryAD FR hr mR kR bR (pa_cons (pv 0) (pa_cons (pv 1) pa_nil)) scTold.nd (i := 3) (j := 2) rfl rfl rfl rfl (fun _ => pss_one (ps_set (i := 2) scTold.nd rfl (Or.inl rfl) (pe_xfld K (pv 3)))) O.ms)
      (pss_one (ps_ret (pv 2)))), ?_⟩
    refine ⟨_, rfl, _, rfl, a, q, tb, n, d, rfl, ht, zt, hn, hq, hok, ?_⟩
    rcases hk with ⟨z, kk⟩ | ⟨z, lt, kk⟩
    · exact .inl ⟨z, fun p H1 s1 h1 => ⟨_, rfl, kk p H1 s1 h1⟩⟩
    · refine .inr ⟨z, lt, fun dx H1 s1 h1 => ⟨cs, rfl, O.ex, fun e he => ?_⟩⟩
      have ne : dx ≠ e := ne_of_none h1 he
      refine ⟨_, rfl, e, cs, dx, _, _, rfl, upd_same, by rw [upd_ne ne]; exact h1, rfl, O.G, ?_⟩
      exact ⟨_, rfl, kk _ (s1.trans (same_new he))⟩
noncomputable def spRefused (K : PySem.W.Frag) : Sp := fun vs H Q _ => ∃ (a q : Addr) (tb : List (List Int)) (n : Nat) (d : Dd), vs = [.ref a, .ref q] ∧ Tab H a tb ∧ Sz n tb ∧ n ≤ 16 ∧ H q = some (.tup d.vals) ∧ d.ok n ∧ d.isM = false ∧ rightsF tb d.h < d.k ∧ ∀ H', Same H H' → Q (.bl true) H'
theorem scRefused : FnScope ["table", "deed", "fits", "e"] ["table", "deed"] (defScope sRefused) := ⟨rfl, rfl, rfl, by decide +kernel, rfl, by decide +kernel, by decide +kernel⟩
theorem ok_refused {f : Addr} {fd : FuncData} {c : Nat → Addr} (F : Fun K "_law_b_refused" "_law_b_refused" sRefused f fd) (T : Txt K mg) (Nm : Nms mg c) (Tg : TgtS K c 14) (GR : DefD P w K mg base "done" 5 ["table", "deed"] (spDone (c 14))) : FnOk P w K mg base CX0 6 f fd ["table", "deed"] (spRefused K) := by
  obtain ⟨fR, fdR, FR, mR, kR, bR⟩ := GR
  have kt : PySem.W.kitOne K (.ref (c 14)) (.ref (c 14)) = some true := Tg.k 14 (by decide) (by decide)
  have k1 : PySem.W.kitOne K (.ref (c 14)) (.ref (c 1)) = some false := Tg.k 1 (by decide) (by decide)
  have k2 : PySem.W.kitOne K (.ref (c 14)) (.ref (c 2)) = some false := Tg.k 2 (by decide) (by decide)
  have k3 : PySem.W.kitOne K (.ref (c 14)) (.ref (c 3)) = some false := Tg.k 3 (by decide) (by decide)
  have k4 : PySem.W.kitOne K (.ref (c 14)) (.ref (c 4)) = some false := Tg.k 4 (by decide) (by decide)
  have k5 : PySem.W.kitOne K (.ref (c 14)) (.ref (c 5)) = some false := Tg.k 5 (by decide) (by decide)
  have k6 : PySem.W.kitOne K (.ref (c 14)) (.ref (c 6)) = some false := Tg.k 6 (by decide) (by decide)
  have k7 : PySem.W.kitOne K (.ref (c 14)) (.ref (c 7)) = some false := Tg.k 7 (by decide) (by decide)
  have k8 : PySem.W.kitOne K (.ref (c 14)) (.ref (c 8)) = some false := Tg.k 8 (by decide) (by decide)
  have k9 : PySem.W.kitOne K (.ref (c 14)) (.ref (c 9)) = some false := Tg.k 9 (by decide) (by decide)
  have k10 : PySem.W.kitOne K (.ref (c 14)) (.ref (c 10)) = some false := Tg.k 10 (by decide) (by decide)
  have k11 : PySem.W.kitOne K (.ref (c 14)) (.ref (c 11)) = some false := Tg.k 11 (by decide) (by decide)
  have k12 : PySem.W.kitOne K (.ref (c 14)) (.ref (c 12)) = some false := Tg.k 12 (by decide) (by decide)
  have k13 : PySem.W.kitOne K (.ref (c 14)) (.ref (c 13)) = some false := Tg.k 13 (by decide) (by decide)
  refine F.ok scRefused (fun vs H Q E h => ?_) (fun cdv A outer s H vs Q E hr h => ?_)
  · obtain ⟨a, q, tb, n, d, rfl, _⟩ := h
    rfl
  · obtain ⟨a, q, tb, n, d, rfl, ht, zt, hn, hq, hok, hm, lt, kk⟩ := h
    refine ⟨_, pss_cons (ps_set (i := 2) scRefused.nd rfl (Or.inl rfl) pe_bl)
      (pss_cons (ps_tryED FR hr mR kR bR (pa_cons (pv 0) (pa_cons (pv 1) pa_nil)) scRefused.nd (i := 3) rfl rfl (fun _ => (pss_cons (ps_set (i := 2) scRefused.nd rfl (Or.inl rfl) (pe_and (pe_callB (call_isxD K) (by rfl) T.isi boot_isinstance (pa_cons (pv 3) (pa_cons (pe_bltn (v := .ty "ValueError") (by rfl) Nm.ve boot_ValueError rfl) pa_nil))) (pe_and (pe_callB (call_isxD K) (by rfl) T.isi boot_isinstance (pa_cons (pv 3) (pa_cons (pe_glob (v := .ref (c 14)) (by rfl) Nm.m14 rfl) pa_nil))) (pe_one (pe_not (pe_callB (call_isxD K) (by rfl) T.isi boot_isinstance (pa_cons (pv 3) (pa_cons (pe_glob (v := .ref (c 1)) (by rfl) Nm.m1 rfl) pa_nil)))))))) (pss_cons (ps_set (i := 2) scRefused.nd rfl (Or.inl rfl) (pe_and (pv 2) (pe_and (pe_not (pe_callB (call_isxD K) (by rfl) T.isi boot_isinstance (pa_cons (pv 3) (pa_cons (pe_glob (v := .ref (c 3)) (by rfl) Nm.m3 rfl) pa_nil)))) (pe_and (pe_not (pe_callB (call_isxD K) (by rfl) T.isi boot_isinstance (pa_cons (pv 3) (pa_cons (pe_glob (v := .ref (c 4)) (by rfl) Nm.m4 rfl) pa_nil)))) (pe_one (pe_not (pe_callB (call_isxD K) (by rfl) T.isi boot_isinstance (pa_cons (pv 3) (pa_cons (pe_glob (v := .ref (c 5)) (by rfl) Nm.m5 rfl) pa_nil))))))))) (pss_cons (ps_set (i := 2) scRefused.nd rfl (Or.inl rfl) (pe_and (pv 2) (pe_and (pe_not (pe_callB (call_isxD K) (by rfl) T.isi boot_isinstance (pa_cons (pv 3) (pa_cons (pe_glob (v := .ref (c 6)) (by rfl) Nm.m6 rfl) pa_nil)))) (pe_and (pe_not (pe_callB (call_isxD K) (by rfl) T.isi boot_isinstance (pa_cons (pv 3) (pa_cons (pe_glob (v := .ref (c 7)) (by rfl) Nm.m7 rfl) pa_nil)))) (pe_one (pe_not (pe_callB (call_isxD K) (by rfl) T.isi boot_isinstance (pa_cons (pv 3) (pa_cons (pe_glob (v := .ref (c 8)) (by rfl) Nm.m8 rfl) pa_nil))))))))) (pss_cons (ps_set (i := 2) scRefused.nd rfl (Or.inl rfl) (pe_and (pv 2) (pe_and (pe_not (pe_callB (call_isxD K) (by rfl) T.isi boot_isinstance (pa_cons (pv 3) (pa_cons (pe_glob (v := .ref (c 9)) (by rfl) Nm.m9 rfl) pa_nil)))) (pe_and (pe_not (pe_callB (call_isxD K) (by rfl) T.isi boot_isinstance (pa_cons (pv 3) (pa_cons (pe_glob (v := .ref (c 10)) (by rfl) Nm.m10 rfl) pa_nil)))) (pe_one (pe_not (pe_callB (call_isxD K) (by rfl) T.isi boot_isinstance (pa_cons (pv 3) (pa_cons (pe_glob (v := .ref (c 11)) (by rfl) Nm.m11 rfl) pa_nil))))))))) (pss_one (ps_set (i := 2) scRefused.nd rfl (Or.inl rfl) (pe_and (pv 2) (pe_and (pe_not (pe_callB (call_isxD K) (by rfl) T.isi boot_isinstance (pa_cons (pv 3) (pa_cons (pe_glob (v := .ref (c 12)) (by rfl) Nm.m12 rfl) pa_nil)))) (pe_and (pe_not (pe_callB (call_isxD K) (by rfl) T.isi boot_isinstance (pa_cons (pv 3) (pa_cons (pe_glob (v := .ref (c 13)) (by rfl) Nm.m13 rfl) pa_nil)))) (pe_one (pe_not (pe_callB (call_isxD K) (by rfl) T.isi boot_isinstance (pa_cons (pv 3) (pa_cons (pe_glob (v := .ref (c 2)) (by rfl) Nm.m2 rfl) pa_nil))))))))))))))) Nm.m0)
      (pss_one (ps_ret (pv 2)))), ?_⟩
    refine ⟨_, rfl, _, rfl, a, q, tb, n, d, rfl, ht, zt, hn, hq, hok, .inr ⟨hm, lt, fun dx H1 s1 h1 => ?_⟩⟩
    refine ⟨_, rfl, Tg.ex, fun e he => ?_⟩
    have hE : upd H1 e (.ext (IsXD e (c 14) (some dx))) e = some (.ext (IsXD e (c 14) (some dx))) := upd_same
    refine ⟨_, rfl, e, _, _, _, _, true, rfl, rfl, hE, Tg.xc, Tg.ve, true, rfl, iteT ?_⟩
    refine ⟨_, rfl, e, _, _, _, _, true, rfl, rfl, hE, Tg.xc, kt, true, rfl, iteT ?_⟩
    refine ⟨_, rfl, e, _, _, _, _, false, rfl, rfl, hE, Tg.xc, k1, false, rfl, ?_⟩
    refine ⟨_, rfl, true, rfl, iteT ?_⟩
    refine ⟨_, rfl, e, _, _, _, _, false, rfl, rfl, hE, Tg.xc, k3, false, rfl, true, rfl, iteT ?_⟩
    refine ⟨_, rfl, e, _, _, _, _, false, rfl, rfl, hE, Tg.xc, k4, false, rfl, true, rfl, iteT ?_⟩
    refine ⟨_, rfl, e, _, _, _, _, false, rfl, rfl, hE, Tg.xc, k5, false, rfl, ?_⟩
    refine ⟨_, rfl, true, rfl, iteT ?_⟩
    refine ⟨_, rfl, e, _, _, _, _, false, rfl, rfl, hE, Tg.xc, k6, false, rfl, true, rfl, iteT ?_⟩
    refine ⟨_, rfl, e, _, _, _, _, false, rfl, rfl, hE, Tg.xc, k7, false, rfl, true, rfl, iteT ?_⟩
    refine ⟨_, rfl, e, _, _, _, _, false, rfl, rfl, hE, Tg.xc, k8, false, rfl, ?_⟩
    refine ⟨_, rfl, true, rfl, iteT ?_⟩
    refine ⟨_, rfl, e, _, _, _, _, false, rfl, rfl, hE, Tg.xc, k9, false, rfl, true, rfl, iteT ?_⟩
    refine ⟨_, rfl, e, _, _, _, _, false, rfl, rfl, hE, Tg.xc, k10, false, rfl, true, rfl, iteT ?_⟩
    refine ⟨_, rfl, e, _, _, _, _, false, rfl, rfl, hE, Tg.xc, k11, false, rfl, ?_⟩
    refine ⟨_, rfl, true, rfl, iteT ?_⟩
    refine ⟨_, rfl, e, _, _, _, _, false, rfl, rfl, hE, Tg.xc, k12, false, rfl, true, rfl, iteT ?_⟩
    refine ⟨_, rfl, e, _, _, _, _, false, rfl, rfl, hE, Tg.xc, k13, false, rfl, true, rfl, iteT ?_⟩
    refine ⟨_, rfl, e, _, _, _, _, false, rfl, rfl, hE, Tg.xc, k2, false, rfl, ?_⟩
    exact ⟨_, rfl, kk _ (s1.trans (same_new he))⟩
end

section
variable {P : Program} {w : World} {K : PySem.W.Frag} {mg : Str → Option Value} {base : Heap}
theorem gName_go {i : Nat} {v : V} {σ : St} {H : Hp} {Q : St → Hp → Prop} (h : Q (σ.set i (some v)) H) : gName i v σ H Q := h
theorem pickI {xs : List V} {i : Int} (h0 : 0 ≤ i) (h1 : i < xs.length) : ∃ v, v ∈ xs ∧ atI xs i = some v := by
  have h : i.toNat < xs.length := by omega
  exact ⟨xs[i.toNat], List.getElem_mem h, atI_int h0 (by simp [h])⟩
noncomputable def spDeed (K : PySem.W.Frag) : Sp := fun vs H Q _ => ∃ (a : Addr) (tb : List (List Int)) (n : Nat) (dr : Int), vs = [.ref a, .int dr] ∧ Tab H a tb ∧ Sz n tb ∧ 1 ≤ n ∧ n ≤ 8 ∧ 0 ≤ dr ∧ ∀ (q : Addr) (d : Dd) H', Same H H' → H' q = some (.tup d.vals) → d.ok n → Q (.ref q) H'
noncomputable abbrev nDe : List Str := ["table", "draw", "n", "word", "house", "has", "way", "k"]
theorem scDeed : FnScope nDe ["table", "draw"] (defScope sDeed) := ⟨rfl, rfl, rfl, by decide +kernel, rfl, by decide +kernel, by decide +kernel⟩
theorem ok_deed {f : Addr} {fd : FuncData} (F : Fun K "_law_b_deed" "_law_b_deed" sDeed f fd) (T : Txt K mg) (GL : Def P w K mg base "_law_b_rights" 1 ["table", "house"] (spLRights K)) : FnOk P w K mg base CX0 2 f fd ["table", "draw"] (spDeed K) := by
  refine F.ok scDeed (fun vs H Q E h => ?_) (fun cdv A outer s H vs Q E hr h => ?_)
  · obtain ⟨a, tb, n, dr, rfl, _⟩ := h
    rfl
  · obtain ⟨a, tb, n, dr, rfl, ht, zt, hn1, hn8, hdr, kk⟩ := h
    refine jok ?_
    refine ⟨_, jss_cons ⟨ps_set (i := 2) scDeed.nd rfl (Or.inl rfl) (pe_callB call_len_seq (by rfl) T.len PySem.boot_len (pa_cons (pv 0) pa_nil))⟩
      (jss_cons ⟨ps_set (i := 3) scDeed.nd rfl (Or.inl rfl) (pe_ix ix_list (pe_lst (pa_cons pe_str (pa_cons pe_str (pa_cons pe_str pa_nil)))) (pe_op op_mod (pv 1) pe_int) (fun _ _ => rfl))⟩
      (jss_cons ⟨ps_set (i := 4) scDeed.nd rfl (Or.inl rfl) (pe_op op_mod (pe_op op_fdiv (pv 1) pe_int) (pv 2))⟩
      (jss_cons ⟨ps_set (i := 5) scDeed.nd rfl (Or.inl rfl) (pe_def GL hr (pa_cons (pv 0) (pa_cons (pv 4) pa_nil)))⟩
      (jss_cons ⟨ps_set (i := 6) scDeed.nd rfl (Or.inl rfl) (pe_op op_mod (pe_op op_fdiv (pv 1) pe_int) pe_int)⟩
      (jss_cons (js_set (i := 7) scDeed.nd rfl (Or.inl rfl) (je_ix ix_list (je_lst (ja_cons je_int (ja_cons ⟨pv 5⟩ (ja_cons ⟨pe_op op_add (pv 5) pe_int⟩ (ja_cons ⟨pe_op op_add pe_int (pe_op op_mod (pe_op op_fdiv (pv 1) pe_int) (pe_op op_pow pe_int pe_int))⟩ (ja_cons ⟨pe_op op_add pe_int (pe_op op_mod (pe_op op_fdiv (pv 1) pe_int) pe_int)⟩ ja_nil)))))) ⟨pv 6⟩ (fun _ _ => rfl)))
      (jss_cons ⟨ps_if (pt_cmpR op_lt (pv 7) pe_int (nomark _)) (pss_one (ps_set (i := 7) scDeed.nd rfl (Or.inl rfl) pe_int)) pss_nil⟩
      (jss_cons ⟨ps_if (pt_cmpR op_eq (pv 3) pe_str (nomark _)) (pss_one (ps_set (i := 7) scDeed.nd rfl (Or.inl rfl) (pe_callB (call_min2 rfl) (by rfl) T.min boot_min (pa_cons (pv 7) (pa_cons (pe_op op_pow pe_int pe_int) pa_nil))))) pss_nil⟩
      (jss_cons ⟨ps_if (pw_and (pt_cmpR op_eq (pv 3) pe_str (nomark _)) (pw_and1 (pt_cmpR op_gt (pv 2) pe_int (nomark _)))).pt (pss_one (ps_ret (pe_tup (pa_cons (pv 3) (pa_cons (pv 4) (pa_cons (pe_op op_mod (pe_op op_add (pe_op op_add (pv 4) pe_int) (pe_op op_mod (pe_op op_fdiv (pv 1) pe_int) (pe_op op_sub (pv 2) pe_int))) (pv 2)) (pa_cons (pv 7) pa_nil))))))) pss_nil⟩
      (jss_cons ⟨ps_if (pt_cmpR op_eq (pv 3) pe_str (nomark _)) (pss_one (ps_ret (pe_tup (pa_cons pe_str (pa_cons (pv 4) (pa_cons (pv 7) pa_nil)))))) pss_nil⟩
      (jss_one ⟨ps_ret (pe_tup (pa_cons (pv 3) (pa_cons (pv 4) (pa_cons (pv 7) pa_nil))))⟩)))))))))), ?_⟩
    obtain ⟨xs, ha, hxl, _⟩ := tab_rows ht zt
    refine ⟨_, rfl, a, xs, rfl, .inr (SqT.of ha), ?_⟩
    rw [hxl]
    have w0 : 0 ≤ dr % 3 := Int.emod_nonneg _ (by decide)
    have w1 : dr % 3 < 3 := Int.emod_lt_of_pos _ (by decide)
    obtain ⟨wd, hwd, ewd⟩ := pickI (xs := [V.str "make", V.str "lend", V.str "use"]) w0 w1
    refine ⟨(show 3 ≤ sizeLine by decide), fun l1 hl1 => ⟨_, rfl, _, _, rfl, rfl, md, l1, _, _, wd, rfl, rfl, SqL.of upd_same, ewd, ?_⟩⟩
    have u1 := same_new (o := .lst [V.str "make", V.str "lend", V.str "use"]) hl1
    have h0 : 0 ≤ dr / 7 % (n : Int) := Int.emod_nonneg _ (by omega)
    have h1 : dr / 7 % (n : Int) < n := Int.emod_lt_of_pos _ (by omega)
    refine ⟨_, rfl, _, _, rfl, rfl, ⟨by decide, by decide⟩, _, rfl, _, _, rfl, rfl, by omega, ?_⟩
    obtain ⟨h, hh, eh⟩ : ∃ h : Nat, h < n ∧ dr / 7 % (n : Int) = h := ⟨(dr / 7 % (n : Int)).toNat, by omega, by omega⟩
    simp only [eh]
    refine ⟨_, rfl, _, rfl, a, tb, n, h, rfl, ht.keeps u1.t, zt, by omega, by omega, by omega, ?_⟩
    rw [Int.toNat_natCast]
    obtain ⟨hs, ehs⟩ : ∃ hs : Int, rightsF tb h = hs := ⟨_, rfl⟩
    simp only [ehs]
    refine ⟨_, rfl, _, _, rfl, rfl, ⟨by decide, by decide⟩, _, _, rfl, rfl, md, ?_⟩
    have y0 : 0 ≤ dr / 12 % 5 := Int.emod_nonneg _ (by decide)
    have y1 : dr / 12 % 5 < 5 := Int.emod_lt_of_pos _ (by decide)
    refine ⟨_, rfl, _, rfl, _, _, rfl, rfl, _, rfl, _, _, rfl, rfl, ⟨by decide, by decide⟩, _, _, rfl, rfl, ⟨by decide, by decide, by decide⟩, _, _, rfl, rfl, Int.pow_pos (by decide), _, _, rfl, rfl, _, rfl, _, _, rfl, rfl, ⟨by decide, by decide⟩, _, _, rfl, rfl, md, _, _, rfl, rfl, (show 5 ≤ sizeLine by decide), fun l2 hl2 => ?_⟩
    obtain ⟨ks, eks⟩ : ∃ ks : List V, [V.int 1, V.int hs, V.int (hs + 1), V.int (1 + dr / 720 % 10 ^ Int.toNat 20), V.int (1 + dr / 720 % 5)] = ks := ⟨_, rfl⟩
    have hki : ∀ y ∈ ks, ∃ i : Int, y = .int i := fun y hy => by
      rw [← eks] at hy
      simp only [List.mem_cons, List.not_mem_nil, or_false] at hy
      rcases hy with rfl | rfl | rfl | rfl | rfl <;> exact ⟨_, rfl⟩
    have hkl : ks.length = 5 := by rw [← eks]; rfl
    have u2 := same_new (o := .lst ks) hl2
    obtain ⟨kv, hkv, ekv⟩ := pickI (xs := ks) y0 (by omega)
    obtain ⟨k0, rfl⟩ := hki kv hkv
    refine ⟨_, rfl, l2, ks, _, .int k0, rfl, rfl, ?_, ekv, ?_⟩
    · show SqL K (upd _ l2 (.lst [V.int 1, V.int hs, V.int (hs + 1), V.int (1 + dr / 720 % 10 ^ Int.toNat 20), V.int (1 + dr / 720 % 5)])) l2 ks
      rw [eks]; exact SqL.of upd_same
    have t2 := u1.trans u2
    refine gName_go ?_
    simp only [List.set_cons_succ, List.set_cons_zero]
    refine seq_cut (fun σ H' => ∃ k1 : Int, 1 ≤ k1 ∧ σ = [some (.ref a), some (.int dr), some (.int n), some wd, some (.int h), some (.int hs), some (.int (dr / 12 % 5)), some (.int k1)] ∧ Same H H') ?_ ?_
    rotate_left
    · intro next
      refine ⟨_, rfl, _, _, rfl, rfl, _, rfl, ?_⟩
      refine ite_tf (fun _ => next _ _ ⟨1, by decide, rfl, ?_⟩) (fun hb => next _ _ ⟨k0, by have := of_decide_eq_false hb; omega, rfl, ?_⟩)
      · first | (rw [← eks] at t2; exact t2) | exact t2
      · first | (rw [← eks] at t2; exact t2) | exact t2
    rintro σ H3 ⟨k1, hk1, rfl, t3⟩
    obtain ⟨x, rfl, hx⟩ : ∃ x : Str, wd = .str x ∧ (x = "make" ∨ x = "lend" ∨ x = "use") := by
      simp only [List.mem_cons, List.not_mem_nil, or_false] at hwd
      rcases hwd with rfl | rfl | rfl
      · exact ⟨_, rfl, .inl rfl⟩
      · exact ⟨_, rfl, .inr (.inl rfl)⟩
      · exact ⟨_, rfl, .inr (.inr rfl)⟩
    have sml : ∀ vs : List V, vs.length ≤ 4 → vs.length ≤ sizeLine := fun vs hv => small64 (by omega)
    have fin : ∀ (d : Dd) (vs : List V), d.vals = vs → d.ok n → vs.length ≤ sizeLine ∧ ∀ p, H3 p = none → Q (.ref p) (upd H3 p (.tup vs)) := fun d vs e hok => ⟨by rw [← e]; exact small64 (by have := d.len; omega), fun p hp => kk p d _ (t3.trans (same_new hp)) (by rw [upd_same, e]) hok⟩
    rcases hx with rfl | rfl | rfl
    · refine ⟨_, rfl, rfl, _, rfl, iteT ?_⟩
      refine ⟨_, rfl, _, _, rfl, rfl, ⟨by decide, by decide, by decide⟩, _, _, rfl, ?_⟩
      obtain ⟨k2, hk2, ek2⟩ : ∃ k2 : Int, 1 ≤ k2 ∧ (if (10 : Int) ^ Int.toNat 20 < k1 then (10 : Int) ^ Int.toNat 20 else k1) = k2 := by
        refine ⟨_, ?_, rfl⟩
        split
        · decide
        · exact hk1
      simp only [ek2]
      refine ⟨_, rfl, rfl, _, rfl, iteF ⟨_, rfl, rfl, _, rfl, iteF ⟨_, rfl, _, rfl, _, rfl, fin (.mk h k2) _ rfl ⟨hh, hk2⟩⟩⟩⟩
    · refine ⟨_, rfl, rfl, _, rfl, iteF ?_⟩
      refine ⟨_, rfl, rfl, _, rfl, iteT ⟨_, rfl, _, _, rfl, rfl, _, rfl, ?_⟩⟩
      refine ite_tf (fun hb => ?_) (fun hb => ?_)
      · have hn2 : (1 : Int) < n := of_decide_eq_true hb
        have z0 : 0 ≤ dr / 60 % ((n : Int) - 1) := Int.emod_nonneg _ (by omega)
        have z1 : dr / 60 % ((n : Int) - 1) < (n : Int) - 1 := Int.emod_lt_of_pos _ (by omega)
        obtain ⟨z, ez⟩ : ∃ z : Int, dr / 60 % ((n : Int) - 1) = z := ⟨_, rfl⟩
        rw [ez] at z0 z1
        have o0 : 0 ≤ ((h : Int) + 1 + z) % n := Int.emod_nonneg _ (by omega)
        have o1 : ((h : Int) + 1 + z) % n < n := Int.emod_lt_of_pos _ (by omega)
        obtain ⟨o, ho, eo⟩ : ∃ o : Nat, (o < n ∧ o ≠ h) ∧ ((h : Int) + 1 + z) % n = o := by
          refine ⟨(((h : Int) + 1 + z) % n).toNat, ⟨by omega, fun e => ?_⟩, by omega⟩
          have e2 : ((h : Int) + 1 + z) % n = h := by omega
          by_cases q : (h : Int) + 1 + z < n
          · rw [Int.emod_eq_of_lt (by omega) q] at e2; omega
          · have : ((h : Int) + 1 + z) % n = (h : Int) + 1 + z - n := by
              rw [← Int.sub_emod_right ((h : Int) + 1 + z) n]
              exact Int.emod_eq_of_lt (by omega) (by omega)
            omega
        refine ⟨_, rfl, _, rfl, _, rfl, _, _, rfl, rfl, _, rfl, _, _, rfl, rfl, ⟨by decide, by decide⟩, _, rfl, _, _, rfl, rfl, _, _, rfl, rfl, by omega, _, _, rfl, rfl, _, rfl, _, _, rfl, rfl, by omega, _, rfl, ?_⟩
        rw [ez]
        exact fin (.ld h o k1) [V.str "lend", V.int h, V.int (((h : Int) + 1 + z) % n), V.int k1] (by rw [eo]; rfl) ⟨hh, ho.1, ho.2, hk1⟩
      · exact ⟨_, rfl, rfl, _, rfl, iteT ⟨_, rfl, _, rfl, fin (.us h k1) _ rfl ⟨hh, hk1⟩⟩⟩
    · refine ⟨_, rfl, rfl, _, rfl, iteF ?_⟩
      exact ⟨_, rfl, rfl, _, rfl, iteF ⟨_, rfl, rfl, _, rfl, iteF ⟨_, rfl, _, rfl, _, rfl, fin (.us h k1) _ rfl ⟨hh, hk1⟩⟩⟩⟩
end

section
variable {P : Program} {w : World} {K : PySem.W.Frag} {mg : Str → Option Value} {base : Heap}
theorem comp_rangeA {cap : List (Option Nat)} {te : TE} {σ : St} {H1 : Hp} {Q : VK} {lo : Int} {n : Nat} (caps : St) (hc : capOf cap σ = none :: caps) (hn : n ≤ sizeLine) (F : Addr → Nat → V → Hp → Prop) (mono : ∀ acc i y H H', SameBut acc H H' → F acc i y H → F acc i y H')
    (step : ∀ acc ys (i : Nat) H' (R : VK), i < n → Same H1 H' → H1 acc = none → H' acc = some (.lst ys) → (∀ y H3, Same H' H3 → F acc i y H3 → R y H3) → te (some (.int (lo + i)) :: caps) H' R)
    (fin : ∀ acc ys H', Same H1 H' → H1 acc = none → H' acc = some (.lst ys) → ys.length = n → (∀ i y, ys[i]? = some y → F acc i y H') → Q (.ref acc) H') : compBody (Itr lo n) cap (gName 0) te σ H1 Q := by
  refine comp_genA n hn (fun σ' => ∃ v, σ' = v :: caps) ⟨none, hc⟩ F mono (fun H' s => Nat.le_refl _) (fun i H' hi s => hi) ?_ fin
  rintro acc ys i σ' H' x H2 R hi ⟨v, rfl⟩ s ha ha' ⟨rfl, rfl⟩ k
  exact step acc ys i H2 _ hi s ha ha' fun y H3 s3 f3 => k y _ H3 ⟨_, rfl⟩ s3 f3
noncomputable def spDueD (K : PySem.W.Frag) : Sp := fun vs H Q _ => ∃ (a q : Addr) (tb : List (List Int)) (n : Nat) (d : Dd), vs = [.ref a, .ref q] ∧ Tab H a tb ∧ Sz n tb ∧ n ≤ 16 ∧ H q = some (.tup d.vals) ∧ d.ok n ∧ ∀ (p : Addr) H', Same H H' → Tab H' p (raiseF tb d.h (d.pl n) d.k) → Q (.ref p) H'
noncomputable abbrev nDu : List Str := ["table", "deed", "n", "row", "place", "rows"]
theorem scDueD : FnScope nDu ["table", "deed"] (defScope sDue) := ⟨rfl, rfl, rfl, by decide +kernel, rfl, by decide +kernel, by decide +kernel⟩
theorem ok_dueD {f : Addr} {fd : FuncData} (F : Fun K "_law_b_due" "_law_b_due" sDue f fd) (T : Txt K mg) : FnOk P w K mg base CX0 1 f fd ["table", "deed"] (spDueD K) := by
  refine F.ok scDueD (fun vs H Q E h => ?_) (fun cdv A outer s H vs Q E hr h => ?_)
  · obtain ⟨a, q, tb, n, d, rfl, _⟩ := h
    rfl
  · obtain ⟨a, q, tb, n, d, rfl, ht, zt, hn, hq, hok, kk⟩ := h
    refine jok ?_
    refine ⟨_, jss_cons ⟨ps_set (i := 2) scDueD.nd rfl (Or.inl rfl) (pe_callB call_len_seq (by rfl) T.len PySem.boot_len (pa_cons (pv 0) pa_nil))⟩
      (jss_cons ⟨ps_set (i := 3) scDueD.nd rfl (Or.inr rfl) (pe_callTy call_list_of (by rfl) T.list boot_list (pa_cons (pe_ix ix_tup (pv 0) (pe_ix ix_tup (pv 1) pe_int (fun _ _ => rfl)) (fun _ _ => rfl)) pa_nil))⟩
      (jss_cons ⟨ps_set (i := 4) scDueD.nd rfl (Or.inl rfl) (pv 2)⟩
      (jss_cons ⟨ps_if (pt_cmpR op_eq (pe_ix ix_tup (pv 1) pe_int (fun _ _ => rfl)) pe_str (nomark _)) (pss_one (ps_set (i := 4) scDueD.nd rfl (Or.inl rfl) (pe_ix ix_tup (pv 1) pe_int (fun _ _ => rfl)))) pss_nil⟩
      (jss_cons ⟨ps_if (pt_cmpR op_eq (pe_ix ix_tup (pv 1) pe_int (fun _ _ => rfl)) pe_str (nomark _)) (pss_one (ps_set (i := 4) scDueD.nd rfl (Or.inl rfl) (pe_ix ix_tup (pv 1) pe_int (fun _ _ => rfl)))) pss_nil⟩
      (jss_cons ⟨ps_asg (pe_op op_add (pe_ix ix_list (pv 3) (pv 4) (fun _ _ => rfl)) (pe_ix ix_tup (pv 1) (pe_un un_neg pe_int) (fun _ _ => rfl))) (pg_sub (pv 3) (pv 4) set_list)⟩
      (jss_cons ⟨ps_comp (i := 5) (N := nDu) (scE := defScope sDue) (N' := ["house", "deed", "row", "table"]) (cap := [none, some 1, some 3, some 0]) scDueD.nd rfl (Or.inl rfl) rfl
        (pi_range1 rfl T.range (pa_cons (pv 2) pa_nil)) (fun _ _ _ _ _ => pg_name (i := 0) (show (["house", "deed", "row", "table"] : List Str).Nodup by decide +kernel) rfl (Or.inl rfl))
        (fun _ _ _ _ _ => pe_ifExp (pt_cmpR op_eq (pv 0) (pe_ix (ix_tupK K) (pv 1) pe_int (fun _ _ => rfl)) (nomark _)) (pv 2) (pe_callTy (call_listK K) (by rfl) T.list boot_list (pa_cons (pe_ix (ix_tupK K) (pv 3) (pv 0) (fun _ _ => rfl)) pa_nil)))⟩
      (jss_one ⟨ps_ret (pe_callTy call_tuple_of (by rfl) T.tuple boot_tuple (pa_cons (pe_comp (N := nDu) (scE := defScope sDue) (N' := ["line"]) (cap := [none]) rfl
        (pi_list (pv 5)) (fun _ _ _ _ _ => pg_name (i := 0) (show (["line"] : List Str).Nodup by decide +kernel) rfl (Or.inl rfl)) (fun _ _ _ _ _ => pe_callTy (call_tupleK K) (by rfl) T.tuple boot_tuple (pa_cons (pv 0) pa_nil))) pa_nil))⟩))))))), ?_⟩
    have hh := Dd.ok_h hok
    have hp := Dd.ok_pl hok
    obtain ⟨xs, r, ha, hxl, hxi, hr', hrl⟩ := sq_ent ht zt hh
    refine ⟨_, rfl, a, xs, rfl, .inr (SqT.of ha), ?_⟩
    rw [hxl]
    refine ⟨_, rfl, _, rfl, q, _, _, _, rfl, rfl, SqT.of hq, d.at1, a, xs, _, _, rfl, rfl, SqT.of ha, atI_nat hxi, r, _, rfl, .inr (SqT.of hr'), fun l hl => ?_⟩
    have u1 := same_new (o := .lst ((tb.getD d.h []).map V.int)) hl
    refine ⟨_, rfl, ?_⟩
    have hl1 : upd H l (.lst ((tb.getD d.h []).map V.int)) l = some (.lst ((tb.getD d.h []).map V.int)) := upd_same
    have hq1 := u1 _ _ hq
    refine gName_go ?_
    simp only [List.set_cons_succ, List.set_cons_zero]
    refine seq_cut (fun σ H' => (σ = [some (.ref a), some (.ref q), some (.int n), some (.ref l), some (.int (match d with | .mk h _ => (h : Int) | _ => (n : Int))), none]) ∧ H' = upd H l (.lst ((tb.getD d.h []).map V.int))) ?_ ?_
    rotate_left
    · intro next
      cases d with
      | mk h k => exact ⟨_, rfl, q, _, _, _, rfl, rfl, SqT.of hq1, rfl, rfl, _, rfl, iteT ⟨_, rfl, q, _, _, _, rfl, rfl, SqT.of hq1, rfl, next _ _ ⟨rfl, rfl⟩⟩⟩
      | ld h o k => exact ⟨_, rfl, q, _, _, _, rfl, rfl, SqT.of hq1, rfl, rfl, _, rfl, iteF (next _ _ ⟨rfl, rfl⟩)⟩
      | us h k => exact ⟨_, rfl, q, _, _, _, rfl, rfl, SqT.of hq1, rfl, rfl, _, rfl, iteF (next _ _ ⟨rfl, rfl⟩)⟩
    rintro σ H' ⟨rfl, rfl⟩
    refine seq_cut (fun σ H' => (σ = [some (.ref a), some (.ref q), some (.int n), some (.ref l), some (.int (d.pl n)), none]) ∧ H' = upd H l (.lst ((tb.getD d.h []).map V.int))) ?_ ?_
    rotate_left
    · intro next
      cases d with
      | mk h k => exact ⟨_, rfl, q, _, _, _, rfl, rfl, SqT.of hq1, rfl, rfl, _, rfl, iteF (next _ _ ⟨rfl, rfl⟩)⟩
      | ld h o k => exact ⟨_, rfl, q, _, _, _, rfl, rfl, SqT.of hq1, rfl, rfl, _, rfl, iteT ⟨_, rfl, q, _, _, _, rfl, rfl, SqT.of hq1, rfl, next _ _ ⟨rfl, rfl⟩⟩⟩
      | us h k => exact ⟨_, rfl, q, _, _, _, rfl, rfl, SqT.of hq1, rfl, rfl, _, rfl, iteF (next _ _ ⟨rfl, rfl⟩)⟩
    rintro σ H' ⟨rfl, rfl⟩
    have hpl : d.pl n < ((tb.getD d.h []).map V.int).length := by rw [List.length_map, hrl]; omega
    refine ⟨_, rfl, _, rfl, l, _, _, _, rfl, rfl, SqL.of hl1, atI_nat (at_row hrl hp), _, rfl, _, rfl, q, _, _, _, rfl, rfl, SqT.of hq1, d.last, _, _, rfl, rfl, ?_⟩
    refine ⟨_, rfl, _, rfl, l, _, _, d.pl n, rfl, rfl, hl1, ixN_nat hpl, ?_⟩
    have erow : ((tb.getD d.h []).map V.int).set (d.pl n) (V.int ((tb.getD d.h []).getD (d.pl n) 0 + d.k)) = ((tb.getD d.h []).set (d.pl n) (ent tb d.h (d.pl n) + d.k)).map V.int := by
      rw [List.map_set]; rfl
    simp only [erow]
    obtain ⟨row', er'⟩ : ∃ row', (tb.getD d.h []).set (d.pl n) (ent tb d.h (d.pl n) + d.k) = row' := ⟨_, rfl⟩
    simp only [er']
    obtain ⟨nt, ent'⟩ : ∃ nt, raiseF tb d.h (d.pl n) d.k = nt := ⟨_, rfl⟩
    have hnt : nt.length = n := by rw [← ent']; simp [raiseF, zt.1]
    have g1 : nt.getD d.h [] = row' := by
      rw [← ent', ← er']
      unfold raiseF
      rw [List.getD, List.getElem?_set_self (by rw [zt.1]; exact hh)]; rfl
    have g2 : ∀ i, i ≠ d.h → nt.getD i [] = tb.getD i [] := fun i hi => by
      rw [← ent']
      unfold raiseF
      simp only [List.getD, List.getElem?_set_ne (Ne.symm hi)]
    have u2 : Same H (upd (upd H l (.lst ((tb.getD d.h []).map V.int))) l (.lst (row'.map V.int))) := u1.upd hl
    have hl2 : upd (upd H l (.lst ((tb.getD d.h []).map V.int))) l (.lst (row'.map V.int)) l = some (.lst (row'.map V.int)) := upd_same
    refine ⟨_, rfl, n, rfl, by omega, by omega, ?_⟩
    rw [Int.toNat_natCast]
    refine comp_rangeA (lo := 0) (n := n) [some (.ref q), some (.ref l), some (.ref a)] (by rfl) (small64 (by omega)) (fun acc i y Hh => ∃ rr, y = .ref rr ∧ rr ≠ acc ∧ Hh rr = some (.lst ((nt.getD i []).map V.int))) (fun acc i y _ _ sb ⟨rr, e1, e2, e3⟩ => ⟨rr, e1, e2, sb.ne e2 e3⟩) ?_ ?_
    · intro acc ys i H3 R hi s3 hacc ha3 k3
      have s03 := u2.trans s3
      rw [Int.zero_add]
      refine ⟨_, rfl, _, rfl, q, _, _, _, rfl, rfl, SqT.of (s03 _ _ hq), d.at1, rfl, _, rfl, ?_⟩
      by_cases e : i = d.h
      · rw [decide_eq_true (by rw [e])]
        refine iteT ⟨_, rfl, k3 _ H3 (Same.refl _) ⟨l, rfl, fun z => ?_, ?_⟩⟩
        · rw [← z, hl2] at hacc; cases hacc
        · rw [e, g1]; exact s3 _ _ hl2
      · rw [decide_eq_false (fun z => e (by have z2 : (i : Int) = (d.h : Int) := by injection z
                                            omega))]
        obtain ⟨xs', r2, ha', _, hx', hr2, hl'⟩ := sq_ent ht zt hi
        rw [ha] at ha'
        cases ha'
        refine iteF ⟨_, rfl, _, rfl, a, xs, _, _, rfl, rfl, SqT.of (s03 _ _ ha), atI_nat hx', r2, _, rfl, .inr (SqT.of (s03 _ _ hr2)), fun l3 hl3 => k3 _ _ (same_new hl3) ⟨l3, rfl, fun z => ?_, ?_⟩⟩
        · rw [z, ha3] at hl3; cases hl3
        · rw [upd_same, g2 i e]
    intro p5 ys H3 s3 hp50 hp5 hyl hF
    have s03 := u2.trans s3
    refine ⟨_, rfl, p5, rfl, ⟨ys, SqL.of hp5⟩, ?_⟩
    refine comp_lst (K := K) (xs := ys) [] (by rfl) (SqL.of hp5) (small64 (by omega)) (fun i y Hh => ∃ rr, y = .ref rr ∧ Hh rr = some (.tup ((nt.getD i []).map V.int))) (fun _ _ _ _ t ⟨rr, e, z⟩ => ⟨rr, e, t _ _ z⟩) ?_ ?_
    · intro i y H4 R hi s4 k4
      obtain ⟨rr, e1, _, e3⟩ := hF i y hi
      subst e1
      exact ⟨_, rfl, rr, _, rfl, .inl ⟨SqL.of (s4 _ _ e3), fun t ht' => k4 _ _ (same_new ht') ⟨t, rfl, upd_same⟩⟩⟩
    intro acc zs H4 s4 hacc h4 hz hG
    refine ⟨acc, _, rfl, .inl ⟨SqL.of h4, fun t ht' => kk t _ ((s03.trans s4).trans (same_new ht')) ?_⟩⟩
    rw [ent']
    refine tab_of upd_same (by omega) fun i y e => ?_
    obtain ⟨rr, e1, e2⟩ := hG i y e
    have hi : i < nt.length := by have := (List.getElem?_eq_some_iff.mp e).1; omega
    exact ⟨rr, nt.getD i [], e1, by rw [getD_at _ _ hi]; simp [hi], same_new ht' _ _ e2⟩
end

section
variable {P : Program} {w : World} {K : PySem.W.Frag} {mg : Str → Option Value} {base : Heap}
theorem atI_m1 {α : Type} {xs : List α} {n : Nat} {v : α} (hl : xs.length = n + 1) (h : xs[n]? = some v) : atI xs (-1) = some v := by
  have e : ixN xs.length (-1) = some n := by
    unfold ixN
    rw [if_neg (by omega), if_pos (by omega)]
    congr 1; omega
  unfold atI; rw [e]; exact h
noncomputable def spStock (K : PySem.W.Frag) : Sp := fun vs H Q _ => ∃ (a : Addr) (tb : List (List Int)) (n : Nat), vs = [.ref a] ∧ Tab H a tb ∧ Sz n tb ∧ n ≤ 16 ∧ ∀ H', Same H H' → Q (.int (stockF n tb)) H'
theorem scStock : FnScope ["table", "made", "used"] ["table"] (defScope sStock) := ⟨rfl, rfl, rfl, by decide +kernel, rfl, by decide +kernel, by decide +kernel⟩
theorem ok_stock {f : Addr} {fd : FuncData} (F : Fun K "stock" "stock" sStock f fd) (T : Txt K mg) : FnOk P w K mg base CX0 1 f fd ["table"] (spStock K) := by
  refine F.ok scStock (fun vs H Q E h => ?_) (fun cdv A outer s H vs Q E hr h => ?_)
  · obtain ⟨a, tb, n, rfl, _⟩ := h
    rfl
  · obtain ⟨a, tb, n, rfl, ht, wf, hn, kk⟩ := h
    refine ⟨_, pss_cons (ps_set (i := 1) scStock.nd rfl (Or.inl rfl) (pe_callB (call_sum false rfl) (by rfl) T.sum boot_sum (pa_cons (pe_comp (N := ["table", "made", "used"]) (scE := defScope sStock) (N' := ["house", "row"]) (cap := [none, none]) rfl
        (pi_enum true (by rfl) T.enumerate (pa_cons (pv 0) pa_nil)) (fun _ _ _ _ _ => pg_pairK K rfl (show (["house", "row"] : List Str).Nodup by decide +kernel) (i := 0) (j := 1) rfl rfl (Or.inl rfl) (Or.inl rfl)) (fun _ _ _ _ _ => pe_ix (ix_tupK K) (pv 1) (pv 0) (fun _ _ => rfl))) pa_nil)))
      (pss_cons (ps_set (i := 2) scStock.nd rfl (Or.inl rfl) (pe_callB (call_sum false rfl) (by rfl) T.sum boot_sum (pa_cons (pe_comp (N := ["table", "made", "used"]) (scE := defScope sStock) (N' := ["row"]) (cap := [none]) rfl
        (pi_tup (pv 0)) (fun _ _ _ _ _ => pg_name (i := 0) (show (["row"] : List Str).Nodup by decide +kernel) rfl (Or.inl rfl)) (fun _ _ _ _ _ => pe_ix (ix_tupK K) (pv 0) (pe_un un_neg pe_int) (fun _ _ => rfl))) pa_nil)))
      (pss_one (ps_ret (pe_op op_sub (pv 1) (pv 2))))), ?_⟩
    obtain ⟨rs, ha, pr⟩ := id ht
    have hxl : (rs.map V.ref).length = n := by rw [List.length_map, Paired.length pr, wf.1]
    have rowAt : ∀ (j : Nat) x, (rs.map V.ref)[j]? = some x → ∃ r, j < n ∧ x = .ref r ∧ H r = some (.tup ((tb.getD j []).map V.int)) ∧ (tb.getD j []).length = n + 1 := fun j x hj => by
      have hj' : j < n := by have := (List.getElem?_eq_some_iff.mp hj).1; omega
      obtain ⟨xs', r', ha', _, hxj, hrj, hrlj⟩ := sq_ent ht wf hj'
      rw [ha] at ha'
      cases ha'
      rw [hxj] at hj
      cases hj
      exact ⟨r', hj', rfl, hrj, hrlj⟩
    refine ⟨_, rfl, a, _, rfl, SqT.of ha, ?_⟩
    refine comp_enum (t := true) (xs := rs.map V.ref) [] (by rfl) (SqT.of ha) (small64 (by omega)) (fun j y _ => y = .int (ent tb j j)) (fun _ _ _ _ _ h => h) ?_ ?_
    · intro j x H3 R hj s3 kk3
      obtain ⟨r, hj', rfl, hr, hl⟩ := rowAt j x hj
      exact ⟨_, rfl, _, rfl, r, _, _, _, rfl, rfl, SqT.of (s3 _ _ hr), atI_int (by omega) (at_row hl (by omega)), kk3 _ H3 (Same.refl _) rfl⟩
    · intro acc ys H3 s3 hacc h3 hy hF
      have eys : ys = ((List.range n).map fun o => ent tb o o).map V.int := list_of (g := V.int) (hy.trans hxl) fun j y e => hF j y e
      rw [eys] at h3
      refine ⟨acc, _, rfl, SqL.of h3, ?_⟩
      refine ⟨_, rfl, a, rfl, ⟨_, SqT.of (s3 _ _ ha)⟩, ?_⟩
      refine comp_tup (xs := rs.map V.ref) [] (by rfl) (s3 _ _ ha) (small64 (by omega)) (fun j y _ => y = .int (ent tb j n)) (fun _ _ _ _ _ h => h) ?_ ?_
      · intro j x H4 R hj s4 kk4
        obtain ⟨r, hj', rfl, hr, hl⟩ := rowAt j x hj
        exact ⟨_, rfl, _, rfl, r, _, _, _, rfl, rfl, SqT.of (s4 _ _ (s3 _ _ hr)), atI_m1 (by rw [List.length_map]; exact hl) (at_row hl (Nat.le_refl _)), kk4 _ H4 (Same.refl _) rfl⟩
      · intro acc2 ys2 H4 s4 hacc2 h4 hy2 hF2
        have eys2 : ys2 = ((List.range n).map fun o => ent tb o n).map V.int := list_of (g := V.int) (hy2.trans hxl) fun j y e => hF2 j y e
        rw [eys2] at h4
        exact ⟨acc2, _, rfl, SqL.of h4, _, rfl, _, rfl, _, _, rfl, rfl, kk H4 (s3.trans s4)⟩
end

section
variable {P : Program} {w : World} {K : PySem.W.Frag} {mg : Str → Option Value} {base : Heap}
theorem sz_raise {n : Nat} {tb : List (List Int)} {h p : Nat} {k : Int} (z : Sz n tb) (hh : h < n) : Sz n (raiseF tb h p k) := by
  refine ⟨by simp [raiseF, z.1], fun row hr => ?_⟩
  unfold raiseF at hr
  rcases List.mem_or_eq_of_mem_set hr with hr | rfl
  · exact z.2 row hr
  · rw [List.length_set]; exact (z.getD hh).1
theorem wf_raise {n : Nat} {tb : List (List Int)} {h p : Nat} {k : Int} (z : Wf n tb) (hh : h < n) (hk : 0 ≤ k) : Wf n (raiseF tb h p k) := by
  refine ⟨(sz_raise z.sz hh).1, fun row hr => ⟨(sz_raise (p := p) (k := k) z.sz hh).2 row hr, fun x hx => ?_⟩⟩
  unfold raiseF at hr
  rcases List.mem_or_eq_of_mem_set hr with hr | rfl
  · exact (z.2 row hr).2 x hx
  · have hrow : ∀ y ∈ tb.getD h [], (0 : Int) ≤ y := by
      obtain ⟨row, e, _, hn⟩ := z.row hh
      rw [show tb.getD h [] = row by rw [List.getD, e]; rfl]
      exact hn
    rcases List.mem_or_eq_of_mem_set hx with hx | rfl
    · exact hrow x hx
    · have : 0 ≤ ent tb h p := getD_nn' hrow p
      omega
theorem ent_raise {n : Nat} {tb : List (List Int)} {h p : Nat} {k : Int} (z : Sz n tb) (hh : h < n) (hp : p ≤ n) (i j : Nat) : ent (raiseF tb h p k) i j = ent tb i j + (if i = h ∧ j = p then k else 0) := by
  unfold ent raiseF
  by_cases e : i = h
  · subst e
    have e1 : (tb.set i ((tb.getD i []).set p (ent tb i p + k))).getD i [] = (tb.getD i []).set p (ent tb i p + k) := by
      rw [List.getD, List.getElem?_set_self (by rw [z.1]; exact hh)]; rfl
    rw [e1]
    have hl := (z.getD hh).1
    by_cases e2 : j = p
    · subst e2
      rw [if_pos ⟨rfl, rfl⟩, List.getD, List.getElem?_set_self (by omega)]
      rfl
    · rw [if_neg (fun q => e2 q.2), Int.add_zero]
      simp only [List.getD, List.getElem?_set_ne (Ne.symm e2)]
  · rw [if_neg (fun q => e q.1), Int.add_zero]
    simp only [List.getD, List.getElem?_set_ne (Ne.symm e)]
theorem upto_one (n p : Nat) (k : Int) : upto n (fun i => if i = p then k else 0) = if p < n then k else 0 := by
  induction n with
  | zero => rw [if_neg (by omega)]; rfl
  | succ n ih =>
    rw [upto_succ, ih]
    by_cases e : n = p
    · subst e
      rw [if_neg (by omega), if_pos rfl, if_pos (by omega)]; omega
    · rw [if_neg e]
      by_cases q : p < n
      · rw [if_pos q, if_pos (by omega)]; omega
      · rw [if_neg q, if_neg (by omega)]; omega
/-- what a deed moves -/
noncomputable def chF (n : Nat) : Dd → List Int
  | .mk h k => (List.replicate n 0).set h k
  | .ld h o k => ((List.replicate n 0).set h (0 - k)).set o k
  | .us h k => (List.replicate n 0).set h (0 - k)
theorem ch_len (n : Nat) (d : Dd) : (chF n d).length = n := by cases d <;> simp [chF]
theorem rep_set {n h x : Nat} {k : Int} (hx : x < n) : ((List.replicate n (0 : Int)).set h k).getD x 0 = if x = h then k else 0 := by
  by_cases e : x = h
  · subst e
    rw [if_pos rfl, List.getD, List.getElem?_set_self (by simpa using hx)]; rfl
  · rw [if_neg e, List.getD, List.getElem?_set_ne (Ne.symm e), List.getElem?_replicate, if_pos hx]; rfl
theorem rights_moved {n : Nat} {tb : List (List Int)} {d : Dd} (z : Sz n tb) (hok : d.ok n) {x : Nat} (hx : x < n) : rightsF (raiseF tb d.h (d.pl n) d.k) x = rightsF tb x + (chF n d).getD x 0 := by
  have hh := Dd.ok_h hok
  have hp := Dd.ok_pl hok
  rw [rightsF_eq (sz_raise z hh) hx, rightsF_eq z hx]
  have a1 : upto n (fun o => ent (raiseF tb d.h (d.pl n) d.k) o x) = upto n (fun o => ent tb o x) + (if x = d.pl n then d.k else 0) := by
    rw [upto_congr (g := fun o => ent tb o x + (if o = d.h then (if x = d.pl n then d.k else 0) else 0)) fun i hi => ?_, upto_add, upto_one, if_pos hh]
    rw [ent_raise z hh hp]
    by_cases e : i = d.h <;> by_cases e2 : x = d.pl n <;> simp [e, e2]
  have a2 : upto (n + 1) (fun j => ent (raiseF tb d.h (d.pl n) d.k) x j) = upto (n + 1) (fun j => ent tb x j) + (if x = d.h then d.k else 0) := by
    rw [upto_congr (g := fun j => ent tb x j + (if j = d.pl n then (if x = d.h then d.k else 0) else 0)) fun i hi => ?_, upto_add, upto_one, if_pos (by omega)]
    rw [ent_raise z hh hp]
    by_cases e : x = d.h <;> by_cases e2 : i = d.pl n <;> simp [e, e2]
  rw [a1, a2, ent_raise z hh hp]
  have key : (if x = d.pl n then d.k else 0) - ((if x = d.h then d.k else 0) - (if x = d.h ∧ x = d.pl n then d.k else 0)) = (chF n d).getD x 0 := by
    cases d with
    | mk h k =>
      show (if x = h then k else 0) - ((if x = h then k else 0) - (if x = h ∧ x = h then k else 0)) = ((List.replicate n (0 : Int)).set h k).getD x 0
      rw [rep_set hx]
      by_cases e : x = h <;> simp [e]
    | ld h o k =>
      show (if x = o then k else 0) - ((if x = h then k else 0) - (if x = h ∧ x = o then k else 0)) = (((List.replicate n (0 : Int)).set h (0 - k)).set o k).getD x 0
      have hne := hok.2.2.1
      by_cases e : x = o
      · subst e
        rw [if_pos rfl, if_neg hne, if_neg (fun q => hne q.1), List.getD, List.getElem?_set_self (by simpa using hx)]
        show k - (0 - 0) = k
        omega
      · have c1 : ¬ (x = h ∧ x = o) := fun q => e q.2
        simp only [if_neg e, if_neg c1]
        rw [List.getD, List.getElem?_set_ne (Ne.symm e), ← List.getD, rep_set hx]
        by_cases e2 : x = h
        · simp only [if_pos e2]; omega
        · simp only [if_neg e2]; omega
    | us h k =>
      show (if x = n then k else 0) - ((if x = h then k else 0) - (if x = h ∧ x = n then k else 0)) = ((List.replicate n (0 : Int)).set h (0 - k)).getD x 0
      have c0 : ¬ (x = n) := by omega
      have c1 : ¬ (x = h ∧ x = n) := fun q => c0 q.2
      rw [rep_set hx]
      simp only [if_neg c0, if_neg c1]
      by_cases e : x = h
      · simp only [if_pos e]; omega
      · simp only [if_neg e]; omega
  omega
theorem stock_moved {n : Nat} {tb : List (List Int)} {d : Dd} (z : Sz n tb) (hok : d.ok n) : stockF n (raiseF tb d.h (d.pl n) d.k) - stockF n tb = (chF n d).sum := by
  rw [← rights_sum (sz_raise z (Dd.ok_h hok)), ← rights_sum z, upto_congr (g := fun x => rightsF tb x + (chF n d).getD x 0) fun i hi => rights_moved z hok hi, upto_add, sum_upto (chF n d), ch_len]
  omega
theorem flat_zero : ∀ n : Nat, (List.replicate n [V.int 0]).flatten = (List.replicate n (0 : Int)).map V.int
  | 0 => rfl
  | n + 1 => by rw [List.replicate_succ, List.flatten_cons, flat_zero n, List.replicate_succ]; rfl
noncomputable def spMoved (K : PySem.W.Frag) : Sp := fun vs H Q _ => ∃ (a b q : Addr) (tb : List (List Int)) (n : Nat) (d : Dd), vs = [.ref a, .ref b, .ref q] ∧ Tab H a tb ∧ Tab H b (raiseF tb d.h (d.pl n) d.k) ∧ Sz n tb ∧ n ≤ 16 ∧ H q = some (.tup d.vals) ∧ d.ok n ∧ ∀ H', Same H H' → Q (.bl true) H'
noncomputable abbrev nMo : List Str := ["table", "found", "deed", "change", "house"]
theorem scMoved : FnScope nMo ["table", "found", "deed"] (defScope sMoved) := ⟨rfl, rfl, rfl, by decide +kernel, rfl, by decide +kernel, by decide +kernel⟩
theorem ok_moved {f : Addr} {fd : FuncData} (F : Fun K "_law_b_moved" "_law_b_moved" sMoved f fd) (T : Txt K mg) (GR : Def P w K mg base "rights" 4 ["table", "house"] (spRights K)) (GL : Def P w K mg base "_law_b_rights" 1 ["table", "house"] (spLRights K)) (GS : Def P w K mg base "stock" 1 ["table"] (spStock K)) : FnOk P w K mg base CX0 5 f fd ["table", "found", "deed"] (spMoved K) := by
  refine F.ok scMoved (fun vs H Q E h => ?_) (fun cdv A outer s H vs Q E hr h => ?_)
  · obtain ⟨a, b, q, tb, n, d, rfl, _⟩ := h
    rfl
  · obtain ⟨a, b, q, tb, n, d, rfl, ht, hf, zt, hn, hq, hok, kk⟩ := h
    have r1 : Room 1 _ := hr.mono (by decide)
    refine jok ?_
    refine ⟨_, jss_cons ⟨ps_set (i := 3) scMoved.nd rfl (Or.inl rfl) (pe_op op_rep (pe_lst (pa_cons pe_int pa_nil)) (pe_callB call_len_seq (by rfl) T.len PySem.boot_len (pa_cons (pv 0) pa_nil)))⟩
      (jss_cons ⟨ps_if (pt_cmpR op_eq (pe_ix ix_tup (pv 2) pe_int (fun _ _ => rfl)) pe_str (nomark _)) (pss_one (ps_asg (pe_ix ix_tup (pv 2) (pe_un un_neg pe_int) (fun _ _ => rfl)) (pg_sub (pv 3) (pe_ix ix_tup (pv 2) pe_int (fun _ _ => rfl)) set_list)))
        (pss_one (ps_asg (pe_op op_sub pe_int (pe_ix ix_tup (pv 2) (pe_un un_neg pe_int) (fun _ _ => rfl))) (pg_sub (pv 3) (pe_ix ix_tup (pv 2) pe_int (fun _ _ => rfl)) set_list)))⟩
      (jss_cons ⟨ps_if (pt_cmpR op_eq (pe_ix ix_tup (pv 2) pe_int (fun _ _ => rfl)) pe_str (nomark _)) (pss_one (ps_asg (pe_ix ix_tup (pv 2) (pe_un un_neg pe_int) (fun _ _ => rfl)) (pg_sub (pv 3) (pe_ix ix_tup (pv 2) pe_int (fun _ _ => rfl)) set_list))) pss_nil⟩
      (jss_cons ⟨ps_for PassesOwn.never rfl (pi_range1 rfl T.range (pa_cons (pe_callB call_len_seq (by rfl) T.len PySem.boot_len (pa_cons (pv 0) pa_nil)) pa_nil)) (pg_name (i := 4) scMoved.nd rfl (Or.inl rfl))
        (pss_one (ps_if (pt_cmpR op_ne (pe_def GR hr (pa_cons (pv 1) (pa_cons (pv 4) pa_nil))) (pe_op op_add (pe_def GL r1 (pa_cons (pv 0) (pa_cons (pv 4) pa_nil))) (pe_ix ix_list (pv 3) (pv 4) (fun _ _ => rfl))) (nomark _)) pss_never pss_nil))⟩
      (jss_one ⟨ps_ret (pe_cmpR op_eq (pe_op op_sub (pe_def GS r1 (pa_cons (pv 1) pa_nil)) (pe_def GS r1 (pa_cons (pv 0) pa_nil))) (pe_callB (call_sum false rfl) (by rfl) T.sum boot_sum (pa_cons (pv 3) pa_nil)) (nomark _))⟩)))), ?_⟩
    obtain ⟨xs, ha, hxl, _⟩ := tab_rows ht zt
    have hh := Dd.ok_h hok
    have zr := sz_raise (p := d.pl n) (k := d.k) zt hh
    refine ⟨(show 1 ≤ sizeLine by decide), fun l0 hl0 => ⟨_, rfl, a, xs, rfl, .inr (SqT.of (same_new hl0 _ _ ha)), ?_⟩⟩
    rw [hxl]
    have u0 := same_new (o := .lst [V.int 0]) hl0
    refine ⟨l0, n, _, rfl, rfl, upd_same, by omega, by omega, by rw [Int.toNat_natCast]; exact small64 (by simp; omega), fun l hl => ?_⟩
    rw [Int.toNat_natCast]
    have er := flat_zero n
    rw [er]
    have hl' : H l = none := same_none u0 hl
    have sH : ∀ o, Same H (upd (upd H l0 (.lst [V.int 0])) l o) := fun o => u0.upd hl'
    refine gName_go ?_
    simp only [List.set_cons_succ, List.set_cons_zero]
    refine seq_cut (fun σ H' => ∃ cs : List Int, σ = [some (.ref a), some (.ref b), some (.ref q), some (.ref l), none] ∧ Same H H' ∧ H' l = some (.lst (cs.map V.int)) ∧ cs.length = n ∧ (∀ o : Nat, (match d with | .ld _ x k => cs.set x k | _ => cs) = chF n d)) ?_ ?_
    rotate_left
    · intro next
      have ix : ixN ((List.replicate n (0 : Int)).map V.int).length (d.h : Int) = some d.h := ixN_nat (by simpa using hh)
      have hq1 := sH (.lst ((List.replicate n (0 : Int)).map V.int)) _ _ hq
      cases d with
      | mk h k =>
        refine ⟨_, rfl, q, _, _, _, rfl, rfl, SqT.of hq1, rfl, rfl, _, rfl, iteT ?_⟩
        refine ⟨_, rfl, _, rfl, q, _, _, _, rfl, rfl, SqT.of hq1, rfl, _, rfl, _, rfl, q, _, _, _, rfl, rfl, SqT.of hq1, rfl, l, _, _, h, rfl, rfl, upd_same, ix, next _ _ ⟨(List.replicate n 0).set h k, rfl, (sH _).upd hl', ?_, by simp, fun _ => rfl⟩⟩
        rw [upd_same, List.map_set]
      | ld h o k =>
        refine ⟨_, rfl, q, _, _, _, rfl, rfl, SqT.of hq1, rfl, rfl, _, rfl, iteF ?_⟩
        refine ⟨_, rfl, _, rfl, q, _, _, _, rfl, rfl, SqT.of hq1, rfl, _, _, rfl, rfl, _, rfl, _, rfl, q, _, _, _, rfl, rfl, SqT.of hq1, rfl, l, _, _, h, rfl, rfl, upd_same, ix, next _ _ ⟨(List.replicate n 0).set h (0 - k), rfl, (sH _).upd hl', ?_, by simp, fun _ => rfl⟩⟩
        rw [upd_same, List.map_set]
      | us h k =>
        refine ⟨_, rfl, q, _, _, _, rfl, rfl, SqT.of hq1, rfl, rfl, _, rfl, iteF ?_⟩
        refine ⟨_, rfl, _, rfl, q, _, _, _, rfl, rfl, SqT.of hq1, rfl, _, _, rfl, rfl, _, rfl, _, rfl, q, _, _, _, rfl, rfl, SqT.of hq1, rfl, l, _, _, h, rfl, rfl, upd_same, ix, next _ _ ⟨(List.replicate n 0).set h (0 - k), rfl, (sH _).upd hl', ?_, by simp, fun _ => rfl⟩⟩
        rw [upd_same, List.map_set]
    rintro σ H1 ⟨cs, rfl, s1, hl1, hcl, hcs⟩
    refine seq_cut (fun σ H' => σ = [some (.ref a), some (.ref b), some (.ref q), some (.ref l), none] ∧ Same H H' ∧ H' l = some (.lst ((chF n d).map V.int))) ?_ ?_
    rotate_left
    · intro next
      have hq1 := s1 _ _ hq
      cases d with
      | mk h k => exact ⟨_, rfl, q, _, _, _, rfl, rfl, SqT.of hq1, rfl, rfl, _, rfl, iteF (next _ _ ⟨rfl, s1, by rw [hl1, ← hcs 0]⟩)⟩
      | ld h o k =>
        have ix : ixN (cs.map V.int).length (o : Int) = some o := ixN_nat (by rw [List.length_map, hcl]; exact hok.2.1)
        refine ⟨_, rfl, q, _, _, _, rfl, rfl, SqT.of hq1, rfl, rfl, _, rfl, iteT ?_⟩
        refine ⟨_, rfl, _, rfl, q, _, _, _, rfl, rfl, SqT.of hq1, rfl, _, rfl, _, rfl, q, _, _, _, rfl, rfl, SqT.of hq1, rfl, l, _, _, o, rfl, rfl, hl1, ix, next _ _ ⟨rfl, s1.upd hl', ?_⟩⟩
        rw [upd_same, ← hcs 0, List.map_set]
      | us h k => exact ⟨_, rfl, q, _, _, _, rfl, rfl, SqT.of hq1, rfl, rfl, _, rfl, iteF (next _ _ ⟨rfl, s1, by rw [hl1, ← hcs 0]⟩)⟩
    rintro σ H2 ⟨rfl, s2, hl2⟩
    refine ⟨_, rfl, a, xs, rfl, .inr (SqT.of (s2 _ _ ha)), ?_⟩
    rw [hxl]
    refine ⟨n, rfl, by omega, by omega, ?_⟩
    rw [Int.toNat_natCast]
    refine for_range (lo := 0) (n := n) (fun i σ H' => ∃ v : Option V, σ = [some (.ref a), some (.ref b), some (.ref q), some (.ref l), v] ∧ Same H2 H') ⟨none, rfl, Same.refl _⟩ ?_ ?_
    · rintro i σ H3 hi ⟨v, rfl, s3⟩
      rw [Int.zero_add]
      have s03 := s2.trans s3
      refine ⟨_, rfl, _, rfl, b, _, n, _, rfl, hf.keeps s03.t, zr, hn, by omega, by omega, fun H4 s4 => ?_⟩
      have s04 := s03.trans s4
      refine ⟨_, rfl, _, rfl, a, tb, n, _, rfl, ht.keeps s04.t, zt, hn, by omega, by omega, ?_⟩
      have hci : ((chF n d).map V.int)[i]? = some (.int ((chF n d).getD i 0)) := by
        have : i < (chF n d).length := by rw [ch_len]; exact hi
        rw [List.getElem?_map, List.getElem?_eq_getElem this, getD_at _ _ this]; rfl
      refine ⟨_, rfl, _, rfl, l, _, _, _, rfl, rfl, SqL.of (s4 _ _ (s3 _ _ hl2)), atI_nat hci, _, _, rfl, rfl, rfl, _, rfl, ?_⟩
      rw [Int.toNat_natCast, rights_moved zt hok hi]
      exact iteNS rfl ⟨_, rfl, s3.trans s4⟩
    · rintro σ H3 ⟨v, rfl, s3⟩
      have s03 := s2.trans s3
      refine ⟨_, rfl, b, _, n, rfl, hf.keeps s03.t, zr, hn, fun H4 s4 => ?_⟩
      refine ⟨_, rfl, a, tb, n, rfl, ht.keeps (s03.trans s4).t, zt, hn, fun H5 s5 => ⟨_, _, rfl, rfl, ?_⟩⟩
      refine ⟨_, rfl, l, _, rfl, SqL.of (s5 _ _ (s4 _ _ (s3 _ _ hl2))), rfl, ?_⟩
      have := kk H5 ((s03.trans s4).trans s5)
      show Q (.bl (decide (V.int (stockF n (raiseF tb d.h (d.pl n) d.k) - stockF n tb) = V.int (chF n d).sum))) H5
      rw [stock_moved zt hok, decide_eq_true rfl]
      exact this
end

section
variable {P : Program} {w : World} {K : PySem.W.Frag} {mg : Str → Option Value} {base : Heap}
noncomputable def spLIsTable (K : PySem.W.Frag) : Sp := fun vs H Q _ => ∃ (a : Addr) (tb : List (List Int)) (n : Nat), vs = [.ref a, .int n] ∧ Tab H a tb ∧ Wf n tb ∧ n ≤ 16 ∧ ∀ H', Same H H' → Q (.bl true) H'
theorem scLIsTable : FnScope ["thing", "n", "row"] ["thing", "n"] (defScope sLIsTable) := ⟨rfl, rfl, rfl, by decide +kernel, rfl, by decide +kernel, by decide +kernel⟩
theorem ok_listable {f : Addr} {fd : FuncData} (F : Fun K "_law_b_is_table" "_law_b_is_table" sLIsTable f fd) (T : Txt K mg) (GW : Def P w K mg base "_law_b_whole" 1 ["thing"] (spWhole K)) : FnOk P w K mg base CX0 2 f fd ["thing", "n"] (spLIsTable K) := by
  refine F.ok scLIsTable (fun vs H Q E h => ?_) (fun cdv A outer s H vs Q E hr h => ?_)
  · obtain ⟨a, tb, n, rfl, _⟩ := h
    rfl
  · obtain ⟨a, tb, n, rfl, ht, wf, hn, kk⟩ := h
    refine ⟨_, pss_cons (ps_if (pw_or (pt_not (pt_val (pe_callB call_isinst (by rfl) T.isi boot_isinstance (pa_cons (pv 0) (pa_cons (pe_bltn (v := .ty "tuple") (by rfl) T.tuple boot_tuple rfl) pa_nil))))) (pw_or1 (pt_cmpR op_ne (pe_callB call_len_seq (by rfl) T.len PySem.boot_len (pa_cons (pv 0) pa_nil)) (pv 1) (nomark _)))).pt pss_never pss_nil)
      (pss_cons (ps_for PassesOwn.never rfl (pi_tup (pv 0)) (pg_name (i := 2) scLIsTable.nd rfl (Or.inl rfl))
        (pss_cons (ps_if (pw_or (pt_not (pt_val (pe_callB call_isinst (by rfl) T.isi boot_isinstance (pa_cons (pv 2) (pa_cons (pe_bltn (v := .ty "tuple") (by rfl) T.tuple boot_tuple rfl) pa_nil))))) (pw_or1 (pt_cmpR op_ne (pe_callB call_len_seq (by rfl) T.len PySem.boot_len (pa_cons (pv 2) pa_nil)) (pe_op op_add (pv 1) pe_int) (nomark _)))).pt pss_never pss_nil)
        (pss_one (ps_if (pt_not (pt_val (pe_callB (call_all false rfl) (by rfl) T.all boot_all (pa_cons (pe_comp (N := ["thing", "n", "row"]) (scE := defScope sLIsTable) (N' := ["number"]) (cap := [none]) rfl
          (pi_tup (pv 2)) (fun _ _ _ _ _ => pg_name (i := 0) (show (["number"] : List Str).Nodup by decide +kernel) rfl (Or.inl rfl))
          (fun _ _ _ _ _ => pe_and (pe_def GW hr (pa_cons (pv 0) pa_nil)) (pe_one (pe_cmpR op_ge (pv 0) pe_int (nomark _))))) pa_nil)))) pss_never pss_nil))))
      (pss_one (ps_ret pe_bl))), ?_⟩
    obtain ⟨xs, ha, hxl, rx⟩ := tab_rows ht wf.sz
    refine ⟨_, rfl, .ref a, _, _, _, true, rfl, rfl, TyOf.tup ha, kit_tt K, _, rfl, iteF ?_⟩
    refine ⟨_, rfl, a, xs, rfl, .inr (SqT.of ha), _, rfl, rfl, _, rfl, iteNS (by rw [hxl]) ?_⟩
    refine ⟨_, rfl, a, rfl, ⟨xs, SqT.of ha⟩, ?_⟩
    refine for_tup (K := K) (a := a) (xs := xs) (fun i σ H2 => ∃ v, σ = [some (.ref a), some (.int n), v] ∧ Same H H2) ⟨none, rfl, Same.refl H⟩ (fun i σ H2 _ ⟨_, _, s2⟩ => SqT.of (s2 _ _ ha)) ?_ ?_
    · rintro i x σ H2 hx ⟨v, rfl, s2⟩
      obtain ⟨r, hi, rfl, hr', hl⟩ := rx i x hx
      have hnn : ∀ x ∈ tb.getD i [], (0 : Int) ≤ x := by
        obtain ⟨row, e, _, q⟩ := wf.row hi
        rw [show tb.getD i [] = row by rw [List.getD, e]; rfl]; exact q
      refine ⟨_, rfl, .ref r, _, _, _, true, rfl, rfl, TyOf.tup (s2 _ _ hr'), kit_tt K, _, rfl, iteF ?_⟩
      refine ⟨_, rfl, r, _, rfl, .inr (SqT.of (s2 _ _ hr')), _, rfl, _, _, rfl, rfl, rfl, _, rfl, iteNS (by rw [List.length_map, hl]; rfl) ?_⟩
      refine ⟨_, rfl, r, rfl, ⟨_, SqT.of (s2 _ _ hr')⟩, ?_⟩
      refine comp_tup (xs := (tb.getD i []).map V.int) [] (by rfl) (s2 _ _ hr') (small64 (by rw [List.length_map]; omega)) (fun j y _ => y = .bl true) (fun _ _ _ _ _ h => h) ?_ ?_
      · intro j x H3 R hj s3 kk3
        obtain ⟨hj1, rfl⟩ := int_at hj
        refine ⟨_, rfl, .int _, _, true, false, rfl, TyOf.int _, T.ii, T.ib, _, rfl, iteT ?_⟩
        refine ⟨_, rfl, _, _, rfl, rfl, kk3 _ H3 (Same.refl _) ?_⟩
        exact congrArg V.bl (decide_eq_true (getD_nn' hnn j))
      · intro acc ys H3 s3 hacc h3 hy hF
        have eys : ys = ((List.range (n + 1)).map fun _ => true).map V.bl := list_of (g := V.bl) (by rw [hy, List.length_map, hl]) fun j y e => hF j y e
        rw [eys] at h3
        refine ⟨acc, _, rfl, SqL.of h3, ?_⟩
        rw [show List.all ((List.range (n + 1)).map fun _ => true) id = true by rw [List.all_map]; simp]
        exact ⟨_, rfl, iteF ⟨_, rfl, s2.trans s3⟩⟩
    · rintro σ H2 ⟨v, rfl, s2⟩
      exact kk H2 s2
end

section
variable {P : Program} {w : World} {K : PySem.W.Frag} {mg : Str → Option Value} {base : Heap}
theorem jss_out {X : Cx} {sts : List Stmt} {t : TS} (h : JSs X sts t) : PSs X sts t := h.out
theorem iteTab {t u : List (List Int)} {A B : Prop} (e : t = u) (h : B) : if (decide (t = u) != true) = true then A else B := by
  rw [decide_eq_true e]; exact iteF h
noncomputable def spLaw (K : PySem.W.Frag) : Sp := fun vs H Q _ => ∃ (a : Addr) (ns : List Int), vs = [.ref a] ∧ SqL K H a (ns.map V.int) ∧ ns.length ≤ 63 ∧ ∀ H', Q (.bl true) H'
noncomputable abbrev nLaw : List Str := ["script", "n", "table", "start", "k", "deed", "has", "twin", "told", "makes", "found"]
theorem scLaw : FnScope nLaw ["script"] (defScope sLaw) := ⟨rfl, rfl, rfl, by decide +kernel, rfl, by decide +kernel, by decide +kernel⟩
theorem ok_law {f : Addr} {fd : FuncData} (F : Fun K "law" "law" sLaw f fd) (T : Txt K mg) (GD : Def P w K mg base "_law_b_draw" 1 ["script", "k"] (spDraw K)) (GT : Def P w K mg base "_law_b_table" 2 ["script", "n", "at"] (spTable K)) (GE : Def P w K mg base "_law_b_deed" 2 ["table", "draw"] (spDeed K))
    (GL : Def P w K mg base "_law_b_rights" 1 ["table", "house"] (spLRights K)) (GO : Def P w K mg base "_law_b_told" 6 ["table", "deed"] spTold) (GW : Def P w K mg base "_law_b_whole" 1 ["thing"] (spWhole K)) (GF : Def P w K mg base "_law_b_refused" 6 ["table", "deed"] (spRefused K))
    (GI : Def P w K mg base "_law_b_is_table" 2 ["thing", "n"] (spLIsTable K)) (GU : Def P w K mg base "_law_b_due" 1 ["table", "deed"] (spDueD K)) (GM : Def P w K mg base "_law_b_moved" 5 ["table", "found", "deed"] (spMoved K)) : FnOk P w K mg base CX0 7 f fd ["script"] (spLaw K) := by
  refine F.ok scLaw (fun vs H Q E h => ?_) (fun cdv A outer s H vs Q E hr h => ?_)
  · obtain ⟨a, ns, rfl, _⟩ := h
    rfl
  · obtain ⟨a, ns, rfl, hS, hlen, kk⟩ := h
    have r1 : Room 1 _ := hr.mono (by decide)
    have r2 : Room 2 _ := hr.mono (by decide)
    have r5 : Room 5 _ := hr.mono (by decide)
    refine jok ?_
    refine ⟨_, jss_cons ⟨ps_set (i := 1) scLaw.nd rfl (Or.inl rfl) (pe_op op_add pe_int (pe_op op_mod (pe_def GD r1 (pa_cons (pv 0) (pa_cons pe_int pa_nil))) pe_int))⟩
      (jss_cons ⟨ps_if (pt_cmpR op_eq (pe_op op_mod (pe_op op_fdiv (pe_def GD r1 (pa_cons (pv 0) (pa_cons pe_int pa_nil))) pe_int) pe_int) pe_int (nomark _)) (pss_one (ps_set (i := 1) scLaw.nd rfl (Or.inl rfl) (pe_op op_add (pv 1) pe_int))) pss_nil⟩
      (jss_cons ⟨ps_set (i := 2) scLaw.nd rfl (Or.inl rfl) (pe_def GT r2 (pa_cons (pv 0) (pa_cons (pv 1) (pa_cons pe_int pa_nil))))⟩
      (jss_cons ⟨ps_set (i := 3) scLaw.nd rfl (Or.inl rfl) (pe_op op_add pe_int (pe_op op_mul (pv 1) (pe_op op_add (pv 1) pe_int)))⟩
      (jss_cons ⟨ps_for PassesOwn.never rfl (pi_range2 rfl T.range (pa_cons (pv 3) (pa_cons (pe_callB (call_max2 rfl) (by rfl) T.max boot_max (pa_cons (pe_op op_add (pv 3) pe_int) (pa_cons (pe_callB (call_min2 rfl) (by rfl) T.min boot_min (pa_cons (pe_callB call_len_seq (by rfl) T.len PySem.boot_len (pa_cons (pv 0) pa_nil)) (pa_cons (pe_op op_add (pv 3) pe_int) pa_nil))) pa_nil))) pa_nil))) (pg_name (i := 4) scLaw.nd rfl (Or.inl rfl))
        (jss_out (jss_cons ⟨ps_set (i := 5) scLaw.nd rfl (Or.inl rfl) (pe_def GE r2 (pa_cons (pv 2) (pa_cons (pe_def GD r1 (pa_cons (pv 0) (pa_cons (pv 4) pa_nil))) pa_nil)))⟩
        (jss_cons ⟨ps_set (i := 6) scLaw.nd rfl (Or.inl rfl) (pe_def GL r1 (pa_cons (pv 2) (pa_cons (pe_ix ix_tup (pv 5) pe_int (fun _ _ => rfl)) pa_nil)))⟩
        (jss_cons ⟨ps_set (i := 7) scLaw.nd rfl (Or.inl rfl) (pe_callTy call_tuple_of (by rfl) T.tuple boot_tuple (pa_cons (pe_comp (N := nLaw) (scE := defScope sLaw) (N' := ["row"]) (cap := [none]) rfl
          (pi_tup (pv 2)) (fun _ _ _ _ _ => pg_name (i := 0) (show (["row"] : List Str).Nodup by decide +kernel) rfl (Or.inl rfl)) (fun _ _ _ _ _ => pe_callTy (call_tupleK K) (by rfl) T.tuple boot_tuple (pa_cons (pe_callTy (call_listK K) (by rfl) T.list boot_list (pa_cons (pv 0) pa_nil)) pa_nil))) pa_nil))⟩
        (jss_cons (js_if (pw_and (pt_cmpR op_ne (pe_ix ix_tup (pv 5) pe_int (fun _ _ => rfl)) pe_str (nomark _)) (pw_and1 (pt_cmpR op_lt (pv 6) (pe_ix ix_tup (pv 5) (pe_un un_neg pe_int) (fun _ _ => rfl)) (nomark _)))).pt
          (jss_cons ⟨ps_set (i := 8) scLaw.nd rfl (Or.inl rfl) (pe_def GO hr (pa_cons (pv 2) (pa_cons (pv 5) pa_nil)))⟩
          (jss_cons ⟨ps_if (pw_or (pt_not (pt_val (pe_def GW r1 (pa_cons (pv 8) pa_nil)))) (pw_or (pt_cmpR op_ne (pv 8) (pv 6) (nomark _)) (pw_or1 (pt_not (pt_val (pe_def GF hr (pa_cons (pv 2) (pa_cons (pv 5) pa_nil)))))))).pt pss_never pss_nil⟩
          (jss_cons ⟨ps_set (i := 9) scLaw.nd rfl (Or.inl rfl) (pe_tup (pa_cons pe_str (pa_cons (pe_ix ix_tup (pv 5) pe_int (fun _ _ => rfl)) (pa_cons (pe_op op_sub (pe_ix ix_tup (pv 5) (pe_un un_neg pe_int) (fun _ _ => rfl)) (pv 6)) pa_nil))))⟩
          (jss_cons ⟨ps_set (i := 8) scLaw.nd rfl (Or.inl rfl) (pe_def GO hr (pa_cons (pv 2) (pa_cons (pv 9) pa_nil)))⟩
          (jss_cons ⟨ps_if (pw_or (pt_not (pt_val (pe_def GI r2 (pa_cons (pv 8) (pa_cons (pv 1) pa_nil))))) (pw_or1 (pt_cmpR (op_neTab (hu_of hr)) (pv 8) (pe_def GU r1 (pa_cons (pv 2) (pa_cons (pv 9) pa_nil))) (nomark _)))).pt pss_never pss_nil⟩
          (jss_cons ⟨ps_set (i := 2) scLaw.nd rfl (Or.inl rfl) (pv 8)⟩
          (jss_one ⟨ps_set (i := 7) scLaw.nd rfl (Or.inl rfl) (pv 8)⟩))))))) jss_nil)
        (jss_cons ⟨ps_set (i := 10) scLaw.nd rfl (Or.inl rfl) (pe_def GO hr (pa_cons (pv 2) (pa_cons (pv 5) pa_nil)))⟩
        (jss_cons ⟨ps_if (pw_or (pt_not (pt_val (pe_def GI r2 (pa_cons (pv 10) (pa_cons (pv 1) pa_nil))))) (pw_or (pt_cmpR (op_neTab (hu_of hr)) (pv 10) (pe_def GU r1 (pa_cons (pv 7) (pa_cons (pv 5) pa_nil))) (nomark _)) (pw_or1 (pt_cmpR (op_neTab (hu_of hr)) (pv 2) (pv 7) (nomark _))))).pt pss_never pss_nil⟩
        (jss_cons ⟨ps_if (pt_not (pt_val (pe_def GM r5 (pa_cons (pv 2) (pa_cons (pv 10) (pa_cons (pv 5) pa_nil)))))) pss_never pss_nil⟩
        (jss_one ⟨ps_set (i := 2) scLaw.nd rfl (Or.inl rfl) (pv 10)⟩)))))))))⟩
      (jss_one ⟨ps_ret pe_bl⟩))))), ?_⟩
    refine ⟨_, rfl, a, ns, 0, rfl, hS, hlen, by decide, by decide, fun d0 H1 s1 d00 => ⟨_, _, rfl, rfl, md, _, _, rfl, rfl, ?_⟩⟩
    refine gName_go ?_
    simp only [List.set_cons_succ, List.set_cons_zero]
    refine seq_cut (fun σ H' => ∃ n : Nat, 1 ≤ n ∧ n ≤ 8 ∧ σ = [some (.ref a), some (.int n), none, none, none, none, none, none, none, none, none] ∧ Same H H') ?_ ?_
    rotate_left
    · intro next
      refine ⟨_, rfl, a, ns, 0, rfl, s1.seq hS, hlen, by decide, by decide, fun d1 H2 s2 d10 => ⟨_, _, rfl, rfl, ⟨by decide, by decide⟩, _, _, rfl, rfl, md, rfl, _, rfl, ?_⟩⟩
      refine ite_tf (fun _ => ?_) (fun _ => ?_)
      · refine ⟨_, rfl, _, _, rfl, rfl, ?_⟩
        obtain ⟨n, hn, en⟩ : ∃ n : Nat, (1 ≤ n ∧ n ≤ 8) ∧ 1 + d0 % 4 + 4 = (n : Int) := ⟨(1 + d0 % 4 + 4).toNat, by omega, by omega⟩
        exact next _ _ ⟨n, hn.1, hn.2, by rw [← en]; rfl, s1.trans s2⟩
      · obtain ⟨n, hn, en⟩ : ∃ n : Nat, (1 ≤ n ∧ n ≤ 8) ∧ 1 + d0 % 4 = (n : Int) := ⟨(1 + d0 % 4).toNat, by omega, by omega⟩
        exact next _ _ ⟨n, hn.1, hn.2, by rw [← en]; rfl, s1.trans s2⟩
    rintro σ H2 ⟨n, hn1, hn8, rfl, s2⟩
    refine ⟨_, rfl, _, rfl, a, ns, n, 1, rfl, s2.seq hS, hlen, by omega, by decide, by decide, fun t0 tb0 H3 s3 ht0 w0 => ?_⟩
    have hmul : (n : Int) * (n + 1) ≤ 8 * 9 := Int.mul_le_mul (by omega) (by omega) (by omega) (by omega)
    have hmul0 : 0 ≤ (n : Int) * (n + 1) := Int.mul_nonneg (by omega) (by omega)
    refine ⟨_, rfl, _, rfl, _, _, rfl, rfl, _, _, rfl, rfl, .inl ⟨by omega, by omega⟩, _, _, rfl, rfl, ?_⟩
    obtain ⟨st, hst, est⟩ : ∃ st : Int, (0 ≤ st ∧ st ≤ 100) ∧ 1 + (n : Int) * (n + 1) = st := ⟨_, by omega, rfl⟩
    simp only [est]
    have s03 := s2.trans s3
    have eL : (ns.map V.int).length = ns.length := List.length_map ..
    refine ⟨_, rfl, _, rfl, _, _, rfl, rfl, _, rfl, a, _, rfl, .inl (s03.seq hS), _, rfl, _, _, rfl, rfl, _, _, rfl, _, _, rfl, _, _, rfl, ?_⟩
    obtain ⟨hi, hhi, ehi⟩ : ∃ hi : Int, (0 ≤ hi ∧ hi ≤ 1000) ∧ (if (if st + 40 < ((ns.map V.int).length : Int) then st + 40 else ((ns.map V.int).length : Int)) > st + 4 then (if st + 40 < ((ns.map V.int).length : Int) then st + 40 else ((ns.map V.int).length : Int)) else st + 4) = hi := by
      refine ⟨_, ?_, rfl⟩
      rw [eL]
      split <;> split <;> omega
    rw [ehi]
    refine ⟨⟨by omega, by omega, by omega, by omega⟩, ?_⟩
    refine for_range (lo := st) (n := (hi - st).toNat) (fun i σ H' => ∃ (t : Addr) (tb : List (List Int)) (v4 v5 v6 v7 v8 v9 v10 : Option V), σ = [some (.ref a), some (.int n), some (.ref t), some (.int st), v4, v5, v6, v7, v8, v9, v10] ∧ Same H H' ∧ Tab H' t tb ∧ Wf n tb) ⟨t0, tb0, none, none, none, none, none, none, none, rfl, s03, ht0, w0⟩ ?_ ?_
    · rintro i σ H4 hi' ⟨t, tb, v4, v5, v6, v7, v8, v9, v10, rfl, s4, ht, wt⟩
      refine ⟨_, rfl, _, rfl, _, rfl, a, ns, _, rfl, s4.seq hS, hlen, by omega, by omega, fun dr H5 s5 dr0 => ?_⟩
      refine ⟨t, tb, n, dr, rfl, ht.keeps s5.t, wt.sz, hn1, hn8, dr0, fun q d H6 s6 hq hok => ?_⟩
      have s46 := s5.trans s6
      have s06 := s4.trans s46
      have ht6 := ht.keeps s46.t
      have hh := Dd.ok_h hok
      have hk1 := Dd.ok_k hok
      refine ⟨_, rfl, _, rfl, q, _, _, _, rfl, rfl, SqT.of hq, d.at1, t, tb, n, d.h, rfl, ht6, wt.sz, by omega, by omega, by omega, ?_⟩
      rw [Int.toNat_natCast]
      obtain ⟨xs, hxs, hxl, rows⟩ := tab_rows ht6 wt.sz
      refine ⟨_, rfl, t, rfl, ⟨xs, SqT.of hxs⟩, ?_⟩
      refine comp_tup (xs := xs) [] (by rfl) hxs (small64 (by omega)) (fun j y Hh => ∃ rr, y = .ref rr ∧ Hh rr = some (.tup ((tb.getD j []).map V.int))) (fun _ _ _ _ tt ⟨rr, e, z⟩ => ⟨rr, e, tt _ _ z⟩) ?_ ?_
      · intro j y H7 R hj s7 k7
        obtain ⟨rr, hj', ey, hrr, hrl⟩ := rows j y hj
        subst ey
        refine ⟨_, rfl, rr, _, rfl, .inr (SqT.of (s7 _ _ hrr)), fun l hl => ⟨l, _, rfl, .inl ⟨SqL.of upd_same, fun l2 hl2 => k7 _ _ ((same_new hl).trans (same_new hl2)) ⟨l2, rfl, upd_same⟩⟩⟩⟩
      intro acc zs H7 s7 hacc h7 hz hF
      refine ⟨acc, _, rfl, .inl ⟨SqL.of h7, fun tw htw => ?_⟩⟩
      have s68 := s7.trans (same_new (o := .tup zs) htw)
      have htw8 : Tab (upd H7 tw (.tup zs)) tw tb := tab_of upd_same (by rw [hz, hxl, wt.1]) fun j y e => by
        obtain ⟨rr, e1, e2⟩ := hF j y e
        have hj : j < tb.length := by have := (List.getElem?_eq_some_iff.mp e).1; rw [wt.1]; omega
        exact ⟨rr, tb.getD j [], e1, by rw [getD_at _ _ hj]; simp [hj], same_new htw _ _ e2⟩
      obtain ⟨H8, eH8⟩ : ∃ H8, upd H7 tw (.tup zs) = H8 := ⟨_, rfl⟩
      rw [eH8] at s68 htw8
      have ht8 := ht6.keeps s68.t
      have hq8 := s68 _ _ hq
      have s08 := s06.trans s68
      rw [eH8]
      refine gName_go ?_
      simp only [List.set_cons_succ, List.set_cons_zero]
      refine seq_cut (fun σ H' => ∃ (t2 tw2 : Addr) (tb2 : List (List Int)) (v8 v9 : Option V), σ = [some (.ref a), some (.int n), some (.ref t2), some (.int st), some (.int (st + i)), some (.ref q), some (.int (rightsF tb d.h)), some (.ref tw2), v8, v9, v10] ∧ Same H H' ∧ H' q = some (.tup d.vals) ∧ Tab H' t2 tb2 ∧ Tab H' tw2 tb2 ∧ Wf n tb2 ∧ (d.isM = true ∨ d.k ≤ rightsF tb2 d.h)) ?_ ?_
      rotate_left
      · intro next
        obtain ⟨e0, ee0, hne⟩ : ∃ e0 : Str, atI d.vals 0 = some (.str e0) ∧ (!decide (V.str e0 = V.str "make")) = !d.isM := by
          cases d with
          | mk h k => exact ⟨"make", rfl, rfl⟩
          | ld h o k => exact ⟨"lend", rfl, by show (!decide (V.str "lend" = V.str "make")) = true; decide +kernel⟩
          | us h k => exact ⟨"use", rfl, by show (!decide (V.str "use" = V.str "make")) = true; decide +kernel⟩
        refine ⟨_, rfl, q, _, _, _, rfl, rfl, SqT.of hq8, ee0, rfl, _, rfl, ?_⟩
        rw [hne]
        cases em : d.isM with
        | true => exact iteF (next _ _ ⟨t, tw, tb, _, _, rfl, s08, hq8, ht8, htw8, wt, .inl em⟩)
        | false =>
          refine iteT ⟨_, rfl, _, rfl, _, rfl, q, _, _, _, rfl, rfl, SqT.of hq8, d.last, _, _, rfl, rfl, _, rfl, ?_⟩
          refine ite_tf (fun hb => ?_) (fun hb => ?_)
          · have lt : rightsF tb d.h < d.k := of_decide_eq_true hb
            refine ⟨_, rfl, _, rfl, t, q, tb, n, d, rfl, ht8, wt.sz, by omega, hq8, hok, .inr ⟨em, lt, fun H9 s9 => ?_⟩⟩
            refine ⟨_, rfl, .int (rightsF tb d.h), _, true, false, rfl, TyOf.int _, T.ii, T.ib, _, rfl, iteF ?_⟩
            refine ⟨_, rfl, _, rfl, rfl, _, rfl, iteNS rfl ?_⟩
            have ht9 := ht8.keeps s9.t
            have hq9 := s9 _ _ hq8
            refine ⟨_, rfl, _, rfl, t, q, tb, n, d, rfl, ht9, wt.sz, by omega, hq9, hok, em, lt, fun H10 s10 => ⟨_, rfl, iteF ?_⟩⟩
            have ht10 := ht9.keeps s10.t
            have hq10 := s10 _ _ hq9
            refine ⟨_, rfl, q, _, _, _, rfl, rfl, SqT.of hq10, d.at1, _, rfl, _, rfl, q, _, _, _, rfl, rfl, SqT.of hq10, d.last, _, rfl, _, _, rfl, rfl, (show 3 ≤ sizeLine by decide), fun qm hqm => ?_⟩
            have u10 := same_new (o := .tup (Dd.mk d.h (d.k - rightsF tb d.h)).vals) hqm
            have hqm1 : upd H10 qm (.tup (Dd.mk d.h (d.k - rightsF tb d.h)).vals) qm = some (.tup (Dd.mk d.h (d.k - rightsF tb d.h)).vals) := upd_same
            have okm : (Dd.mk d.h (d.k - rightsF tb d.h)).ok n := ⟨hh, by omega⟩
            refine ⟨_, rfl, _, rfl, t, qm, tb, n, _, rfl, ht10.keeps u10.t, wt.sz, by omega, hqm1, okm, .inl ⟨.inl rfl, fun t2 H11 s11 ht2 => ?_⟩⟩
            have wt2 : Wf n (raiseF tb d.h d.h (d.k - rightsF tb d.h)) := wf_raise wt hh (by omega)
            refine ⟨_, rfl, _, rfl, t2, _, n, rfl, ht2, wt2, by omega, fun H12 s12 => ⟨_, rfl, iteF ?_⟩⟩
            refine ⟨_, rfl, _, rfl, _, rfl, t, qm, tb, n, _, rfl, ((ht10.keeps u10.t).keeps s11.t).keeps s12.t, wt.sz, by omega, s12 _ _ (s11 _ _ hqm1), okm, fun du H13 s13 hdu => ?_⟩
            have ht2' := (ht2.keeps s12.t).keeps s13.t
            refine ⟨t2, du, _, _, rfl, rfl, ht2', hdu, _, rfl, iteTab rfl ?_⟩
            refine ⟨_, rfl, _, rfl, next _ _ ⟨t2, t2, raiseF tb d.h d.h (d.k - rightsF tb d.h), _, _, rfl, ((((s08.trans s9).trans s10).trans u10).trans s11).trans (s12.trans s13), (s12.trans s13) _ _ (s11 _ _ (u10 _ _ hq10)), ht2', ht2', wt2, .inr ?_⟩⟩
            have := rights_moved (d := .mk d.h (d.k - rightsF tb d.h)) wt.sz okm hh
            rw [show raiseF tb d.h d.h (d.k - rightsF tb d.h) = raiseF tb (Dd.mk d.h (d.k - rightsF tb d.h)).h (Dd.pl n (Dd.mk d.h (d.k - rightsF tb d.h))) (Dd.mk d.h (d.k - rightsF tb d.h)).k from rfl, this]
            show d.k ≤ rightsF tb d.h + ((List.replicate n (0 : Int)).set d.h (d.k - rightsF tb d.h)).getD d.h 0
            rw [rep_set hh, if_pos rfl]
            omega
          · have ge := of_decide_eq_false hb
            exact next _ _ ⟨t, tw, tb, _, _, rfl, s08, hq8, ht8, htw8, wt, .inr (by omega)⟩
      rintro σ H9 ⟨t2, tw2, tb2, w8, w9, rfl, s9, hq9, ht9, htw9, wt9, hmay⟩
      have wr : Wf n (raiseF tb2 d.h (d.pl n) d.k) := wf_raise wt9 hh (by omega)
      refine ⟨_, rfl, _, rfl, t2, q, tb2, n, d, rfl, ht9, wt9.sz, by omega, hq9, hok, .inl ⟨hmay, fun fo H10 s10 hfo => ?_⟩⟩
      refine ⟨_, rfl, _, rfl, fo, _, n, rfl, hfo, wr, by omega, fun H11 s11 => ⟨_, rfl, iteF ?_⟩⟩
      have s911 := s10.trans s11
      refine ⟨_, rfl, _, rfl, _, rfl, tw2, q, tb2, n, d, rfl, htw9.keeps s911.t, wt9.sz, by omega, s911 _ _ hq9, hok, fun du H12 s12 hdu => ?_⟩
      have s912 := s911.trans s12
      have hfo12 := (hfo.keeps s11.t).keeps s12.t
      refine ⟨fo, du, _, _, rfl, rfl, hfo12, hdu, _, rfl, iteTab rfl ?_⟩
      refine ⟨_, rfl, _, rfl, t2, tw2, tb2, tb2, rfl, rfl, ht9.keeps s912.t, htw9.keeps s912.t, _, rfl, iteTab rfl ?_⟩
      refine ⟨_, rfl, _, rfl, _, rfl, t2, fo, q, tb2, n, d, rfl, ht9.keeps s912.t, hfo12, wt9.sz, by omega, s912 _ _ hq9, hok, fun H13 s13 => ⟨_, rfl, iteF ?_⟩⟩
      exact ⟨_, rfl, fo, _, _, _, _, _, _, _, _, rfl, (s9.trans s912).trans s13, hfo12.keeps s13.t, wr⟩
    · rintro σ H4 ⟨t, tb, v4, v5, v6, v7, v8, v9, v10, rfl, s4, ht, wt⟩
      exact kk H4
end

theorem parts_mk {P : Program} {w : World} {K : PySem.W.Frag} {mg : Str → Option Value} {pd : Addr} {t1 t2 t3 u1 u2 u3 : Tok} {ep : Nat} (hs : mg "str" = none) (hm : mg "PARTS_OF_DEED" = some (.ref pd))
    (lk : K.lookup pd = some ⟨.type "dict", none, .dict #[⟨PyData.keyHash w.params "make", .str "make" t1, .int 3 u1⟩, ⟨PyData.keyHash w.params "lend", .str "lend" t2, .int 4 u2⟩, ⟨PyData.keyHash w.params "use", .str "use" t3, .int 3 u3⟩] ep, #[]⟩) (hp : (pd == sysModules) = false) : PartsOk P w K mg := by
  refine ⟨hs, pd, _, _, _, hm, lk, rfl, ⟨rfl, rfl, rfl⟩, rfl, fun e he => ?_, hp, fun x v hv => ?_⟩
  · simp only [List.mem_toArray, List.mem_cons, List.not_mem_nil, or_false] at he
    rcases he with rfl | rfl | rfl
    · exact ⟨.inr "make", by simp [mixKind, keyIs, Value.isStrOf], rfl⟩
    · exact ⟨.inr "lend", by simp [mixKind, keyIs, Value.isStrOf], rfl⟩
    · exact ⟨.inr "use", by simp [mixKind, keyIs, Value.isStrOf], rfl⟩
  · unfold partsV at hv
    by_cases e1 : x = "make"
    · rw [if_pos e1] at hv; cases hv; subst e1
      exact ⟨.int 3 u1, by first | rfl | decide +kernel, ⟨_, rfl⟩⟩
    · rw [if_neg e1] at hv
      by_cases e2 : x = "lend"
      · rw [if_pos e2] at hv; cases hv; subst e2
        exact ⟨.int 4 u2, by first | rfl | decide +kernel, ⟨_, rfl⟩⟩
      · rw [if_neg e2] at hv
        by_cases e3 : x = "use"
        · rw [if_pos e3] at hv; cases hv; subst e3
          exact ⟨.int 3 u3, by first | rfl | decide +kernel, ⟨_, rfl⟩⟩
        · rw [if_neg e3] at hv; cases hv

theorem at_mk {K : PySem.W.Frag} {mg : Str → Option Value} {h : Heap} {name : Str} {st : Stmt} {ps : List Str} {f : Addr} {oc : Value} {od an : Option Addr} {osl : Array (Option Value)} {kV doc pm cdv ct : Value} (X : K.In h) (G : h.Ns mainGlobals mg)
    (a : PySem.W.nsIn K mainGlobals name = some (some (.ref f))) (l : K.lookup f = some ⟨oc, od, .func (PySem.W.fnOf name name (defArgs st) (defBody st) (defScope st) .none kV doc pm an cdv ct), osl⟩) (c : PySem.W.codeIn K cdv name = true) (k : PySem.W.keepIn K (.ref f) = true)
    (b : ∀ (kV doc pm : Value) (an : Option Addr) (cdv ct : Value) (us : List Value), us.length = ps.length → bindArgs (PySem.W.fnOf name name (defArgs st) (defBody st) (defScope st) .none kV doc pm an cdv ct) ⟨us, []⟩ = pure (ps.zip us)) :
    At K mg name st ps f (PySem.W.fnOf name name (defArgs st) (defBody st) (defScope st) .none kV doc pm an cdv ct) :=
  have F := fun_mk (st := st) l c k
  ⟨F, PySem.W.mg_of X G a, F.binds b⟩
theorem all_mk {l : PySem.W.OpenLaw} {w : World} {K : PySem.W.Frag} {h : Heap} {mg : Str → Option Value} {fa f1 f2 f3 f4 f5 f6 f7 f8 f9 f10 f11 f12 f13 f14 f15 f16 f17 f18 f19 f20 f21 f22 f23 : Addr} (X : K.In h) (G : h.Ns mainGlobals mg) (hfa : mg "law" = some (.ref fa))
    {od1 od2 od3 od4 od5 od6 od7 od8 od9 od10 od11 od12 od13 od14 od15 od16 od17 od18 od19 od20 od21 od22 od23 an1 an2 an3 an4 an5 an6 an7 an8 an9 an10 an11 an12 an13 an14 an15 an16 an17 an18 an19 an20 an21 an22 an23 : Option Addr}
    {sl1 sl2 sl3 sl4 sl5 sl6 sl7 sl8 sl9 sl10 sl11 sl12 sl13 sl14 sl15 sl16 sl17 sl18 sl19 sl20 sl21 sl22 sl23 : Array (Option Value)}
    {oc1 kV1 dc1 pm1 cd1 ct1 oc2 kV2 dc2 pm2 cd2 ct2 oc3 kV3 dc3 pm3 cd3 ct3 oc4 kV4 dc4 pm4 cd4 ct4 oc5 kV5 dc5 pm5 cd5 ct5 oc6 kV6 dc6 pm6 cd6 ct6 oc7 kV7 dc7 pm7 cd7 ct7 oc8 kV8 dc8 pm8 cd8 ct8 oc9 kV9 dc9 pm9 cd9 ct9 oc10 kV10 dc10 pm10 cd10 ct10 oc11 kV11 dc11 pm11 cd11 ct11 oc12 kV12 dc12 pm12 cd12 ct12 oc13 kV13 dc13 pm13 cd13 ct13 oc14 kV14 dc14 pm14 cd14 ct14 oc15 kV15 dc15 pm15 cd15 ct15 oc16 kV16 dc16 pm16 cd16 ct16 oc17 kV17 dc17 pm17 cd17 ct17 oc18 kV18 dc18 pm18 cd18 ct18 oc19 kV19 dc19 pm19 cd19 ct19 oc20 kV20 dc20 pm20 cd20 ct20 oc21 kV21 dc21 pm21 cd21 ct21 oc22 kV22 dc22 pm22 cd22 ct22 oc23 kV23 dc23 pm23 cd23 ct23 : Value}
    {e0 e1 e2 e3 e4 e5 e6 e7 e8 e9 e10 e11 e12 e13 e14 fI pd xN : Addr} {cdx : ClassData} {xnm xqn : Str} {xbs xsub : List Value} {xsn : List Str} {xab : Bool} {xcol : Option Bool} {xdd odI anI : Option Addr} {xk0 xk1 xk2 xk3 xk5 : Option Value} {slI : Array (Option Value)} {kVI dcI pmI cdI ctI : Value} {pt1 pt2 pt3 pu1 pu2 pu3 : Tok} {pep : Nat}
    (a1 : PySem.W.nsIn K mainGlobals "is_whole" = some (some (.ref f1))) (l1 : K.lookup f1 = some ⟨oc1, od1, .func (PySem.W.fnOf "is_whole" "is_whole" (defArgs sWhole) (defBody sWhole) (defScope sWhole) .none kV1 dc1 pm1 an1 cd1 ct1), sl1⟩) (c1 : PySem.W.codeIn K cd1 "is_whole" = true) (k1 : PySem.W.keepIn K (.ref f1) = true)
    (a2 : PySem.W.nsIn K mainGlobals "is_between" = some (some (.ref f2))) (l2 : K.lookup f2 = some ⟨oc2, od2, .func (PySem.W.fnOf "is_between" "is_between" (defArgs sBetween) (defBody sBetween) (defScope sBetween) .none kV2 dc2 pm2 an2 cd2 ct2), sl2⟩) (c2 : PySem.W.codeIn K cd2 "is_between" = true) (k2 : PySem.W.keepIn K (.ref f2) = true)
    (a3 : PySem.W.nsIn K mainGlobals "is_house" = some (some (.ref f3))) (l3 : K.lookup f3 = some ⟨oc3, od3, .func (PySem.W.fnOf "is_house" "is_house" (defArgs sHouse) (defBody sHouse) (defScope sHouse) .none kV3 dc3 pm3 an3 cd3 ct3), sl3⟩) (c3 : PySem.W.codeIn K cd3 "is_house" = true) (k3 : PySem.W.keepIn K (.ref f3) = true)
    (a4 : PySem.W.nsIn K mainGlobals "rights" = some (some (.ref f4))) (l4 : K.lookup f4 = some ⟨oc4, od4, .func (PySem.W.fnOf "rights" "rights" (defArgs sRights) (defBody sRights) (defScope sRights) .none kV4 dc4 pm4 an4 cd4 ct4), sl4⟩) (c4 : PySem.W.codeIn K cd4 "rights" = true) (k4 : PySem.W.keepIn K (.ref f4) = true)
    (a5 : PySem.W.nsIn K mainGlobals "stock" = some (some (.ref f5))) (l5 : K.lookup f5 = some ⟨oc5, od5, .func (PySem.W.fnOf "stock" "stock" (defArgs sStock) (defBody sStock) (defScope sStock) .none kV5 dc5 pm5 an5 cd5 ct5), sl5⟩) (c5 : PySem.W.codeIn K cd5 "stock" = true) (k5 : PySem.W.keepIn K (.ref f5) = true)
    (a6 : PySem.W.nsIn K mainGlobals "is_text_and_numbers" = some (some (.ref f6))) (l6 : K.lookup f6 = some ⟨oc6, od6, .func (PySem.W.fnOf "is_text_and_numbers" "is_text_and_numbers" (defArgs sTextNum) (defBody sTextNum) (defScope sTextNum) .none kV6 dc6 pm6 an6 cd6 ct6), sl6⟩) (c6 : PySem.W.codeIn K cd6 "is_text_and_numbers" = true) (k6 : PySem.W.keepIn K (.ref f6) = true)
    (a7 : PySem.W.nsIn K mainGlobals "is_deed" = some (some (.ref f7))) (l7 : K.lookup f7 = some ⟨oc7, od7, .func (PySem.W.fnOf "is_deed" "is_deed" (defArgs sIsDeed) (defBody sIsDeed) (defScope sIsDeed) .none kV7 dc7 pm7 an7 cd7 ct7), sl7⟩) (c7 : PySem.W.codeIn K cd7 "is_deed" = true) (k7 : PySem.W.keepIn K (.ref f7) = true)
    (a8 : PySem.W.nsIn K mainGlobals "need_houses_of_deed" = some (some (.ref f8))) (l8 : K.lookup f8 = some ⟨oc8, od8, .func (PySem.W.fnOf "need_houses_of_deed" "need_houses_of_deed" (defArgs sNeedH) (defBody sNeedH) (defScope sNeedH) .none kV8 dc8 pm8 an8 cd8 ct8), sl8⟩) (c8 : PySem.W.codeIn K cd8 "need_houses_of_deed" = true) (k8 : PySem.W.keepIn K (.ref f8) = true)
    (a9 : PySem.W.nsIn K mainGlobals "place_in_row" = some (some (.ref f9))) (l9 : K.lookup f9 = some ⟨oc9, od9, .func (PySem.W.fnOf "place_in_row" "place_in_row" (defArgs sPlace) (defBody sPlace) (defScope sPlace) .none kV9 dc9 pm9 an9 cd9 ct9), sl9⟩) (c9 : PySem.W.codeIn K cd9 "place_in_row" = true) (k9 : PySem.W.keepIn K (.ref f9) = true)
    (a10 : PySem.W.nsIn K mainGlobals "raised" = some (some (.ref f10))) (l10 : K.lookup f10 = some ⟨oc10, od10, .func (PySem.W.fnOf "raised" "raised" (defArgs sRaised) (defBody sRaised) (defScope sRaised) .none kV10 dc10 pm10 an10 cd10 ct10), sl10⟩) (c10 : PySem.W.codeIn K cd10 "raised" = true) (k10 : PySem.W.keepIn K (.ref f10) = true)
    (a11 : PySem.W.nsIn K mainGlobals "done" = some (some (.ref f11))) (l11 : K.lookup f11 = some ⟨oc11, od11, .func (PySem.W.fnOf "done" "done" (defArgs sDone) (defBody sDone) (defScope sDone) .none kV11 dc11 pm11 an11 cd11 ct11), sl11⟩) (c11 : PySem.W.codeIn K cd11 "done" = true) (k11 : PySem.W.keepIn K (.ref f11) = true)
    (a12 : PySem.W.nsIn K mainGlobals "_law_b_draw" = some (some (.ref f12))) (l12 : K.lookup f12 = some ⟨oc12, od12, .func (PySem.W.fnOf "_law_b_draw" "_law_b_draw" (defArgs sDraw) (defBody sDraw) (defScope sDraw) .none kV12 dc12 pm12 an12 cd12 ct12), sl12⟩) (c12 : PySem.W.codeIn K cd12 "_law_b_draw" = true) (k12 : PySem.W.keepIn K (.ref f12) = true)
    (a13 : PySem.W.nsIn K mainGlobals "_law_b_whole" = some (some (.ref f13))) (l13 : K.lookup f13 = some ⟨oc13, od13, .func (PySem.W.fnOf "_law_b_whole" "_law_b_whole" (defArgs sLWhole) (defBody sLWhole) (defScope sLWhole) .none kV13 dc13 pm13 an13 cd13 ct13), sl13⟩) (c13 : PySem.W.codeIn K cd13 "_law_b_whole" = true) (k13 : PySem.W.keepIn K (.ref f13) = true)
    (a14 : PySem.W.nsIn K mainGlobals "_law_b_entry" = some (some (.ref f14))) (l14 : K.lookup f14 = some ⟨oc14, od14, .func (PySem.W.fnOf "_law_b_entry" "_law_b_entry" (defArgs sEntry) (defBody sEntry) (defScope sEntry) .none kV14 dc14 pm14 an14 cd14 ct14), sl14⟩) (c14 : PySem.W.codeIn K cd14 "_law_b_entry" = true) (k14 : PySem.W.keepIn K (.ref f14) = true)
    (a15 : PySem.W.nsIn K mainGlobals "_law_b_table" = some (some (.ref f15))) (l15 : K.lookup f15 = some ⟨oc15, od15, .func (PySem.W.fnOf "_law_b_table" "_law_b_table" (defArgs sTable) (defBody sTable) (defScope sTable) .none kV15 dc15 pm15 an15 cd15 ct15), sl15⟩) (c15 : PySem.W.codeIn K cd15 "_law_b_table" = true) (k15 : PySem.W.keepIn K (.ref f15) = true)
    (a16 : PySem.W.nsIn K mainGlobals "_law_b_rights" = some (some (.ref f16))) (l16 : K.lookup f16 = some ⟨oc16, od16, .func (PySem.W.fnOf "_law_b_rights" "_law_b_rights" (defArgs sLRights) (defBody sLRights) (defScope sLRights) .none kV16 dc16 pm16 an16 cd16 ct16), sl16⟩) (c16 : PySem.W.codeIn K cd16 "_law_b_rights" = true) (k16 : PySem.W.keepIn K (.ref f16) = true)
    (a17 : PySem.W.nsIn K mainGlobals "_law_b_is_table" = some (some (.ref f17))) (l17 : K.lookup f17 = some ⟨oc17, od17, .func (PySem.W.fnOf "_law_b_is_table" "_law_b_is_table" (defArgs sLIsTable) (defBody sLIsTable) (defScope sLIsTable) .none kV17 dc17 pm17 an17 cd17 ct17), sl17⟩) (c17 : PySem.W.codeIn K cd17 "_law_b_is_table" = true) (k17 : PySem.W.keepIn K (.ref f17) = true)
    (a18 : PySem.W.nsIn K mainGlobals "_law_b_refused" = some (some (.ref f18))) (l18 : K.lookup f18 = some ⟨oc18, od18, .func (PySem.W.fnOf "_law_b_refused" "_law_b_refused" (defArgs sRefused) (defBody sRefused) (defScope sRefused) .none kV18 dc18 pm18 an18 cd18 ct18), sl18⟩) (c18 : PySem.W.codeIn K cd18 "_law_b_refused" = true) (k18 : PySem.W.keepIn K (.ref f18) = true)
    (a19 : PySem.W.nsIn K mainGlobals "_law_b_told" = some (some (.ref f19))) (l19 : K.lookup f19 = some ⟨oc19, od19, .func (PySem.W.fnOf "_law_b_told" "_law_b_told" (defArgs sTold) (defBody sTold) (defScope sTold) .none kV19 dc19 pm19 an19 cd19 ct19), sl19⟩) (c19 : PySem.W.codeIn K cd19 "_law_b_told" = true) (k19 : PySem.W.keepIn K (.ref f19) = true)
    (a20 : PySem.W.nsIn K mainGlobals "_law_b_deed" = some (some (.ref f20))) (l20 : K.lookup f20 = some ⟨oc20, od20, .func (PySem.W.fnOf "_law_b_deed" "_law_b_deed" (defArgs sDeed) (defBody sDeed) (defScope sDeed) .none kV20 dc20 pm20 an20 cd20 ct20), sl20⟩) (c20 : PySem.W.codeIn K cd20 "_law_b_deed" = true) (k20 : PySem.W.keepIn K (.ref f20) = true)
    (a21 : PySem.W.nsIn K mainGlobals "_law_b_due" = some (some (.ref f21))) (l21 : K.lookup f21 = some ⟨oc21, od21, .func (PySem.W.fnOf "_law_b_due" "_law_b_due" (defArgs sDue) (defBody sDue) (defScope sDue) .none kV21 dc21 pm21 an21 cd21 ct21), sl21⟩) (c21 : PySem.W.codeIn K cd21 "_law_b_due" = true) (k21 : PySem.W.keepIn K (.ref f21) = true)
    (a22 : PySem.W.nsIn K mainGlobals "_law_b_moved" = some (some (.ref f22))) (l22 : K.lookup f22 = some ⟨oc22, od22, .func (PySem.W.fnOf "_law_b_moved" "_law_b_moved" (defArgs sMoved) (defBody sMoved) (defScope sMoved) .none kV22 dc22 pm22 an22 cd22 ct22), sl22⟩) (c22 : PySem.W.codeIn K cd22 "_law_b_moved" = true) (k22 : PySem.W.keepIn K (.ref f22) = true)
    (a23 : PySem.W.nsIn K mainGlobals "law" = some (some (.ref f23))) (l23 : K.lookup f23 = some ⟨oc23, od23, .func (PySem.W.fnOf "law" "law" (defArgs sLaw) (defBody sLaw) (defScope sLaw) .none kV23 dc23 pm23 an23 cd23 ct23), sl23⟩) (c23 : PySem.W.codeIn K cd23 "law" = true) (k23 : PySem.W.keepIn K (.ref f23) = true)
    (z_len : PySem.W.nsIn K mainGlobals "len" = some none)
    (z_sum : PySem.W.nsIn K mainGlobals "sum" = some none)
    (z_range : PySem.W.nsIn K mainGlobals "range" = some none)
    (z_tuple : PySem.W.nsIn K mainGlobals "tuple" = some none)
    (z_list : PySem.W.nsIn K mainGlobals "list" = some none)
    (z_isinstance : PySem.W.nsIn K mainGlobals "isinstance" = some none)
    (z_int : PySem.W.nsIn K mainGlobals "int" = some none)
    (z_bool : PySem.W.nsIn K mainGlobals "bool" = some none)
    (z_zip : PySem.W.nsIn K mainGlobals "zip" = some none)
    (z_enumerate : PySem.W.nsIn K mainGlobals "enumerate" = some none)
    (z_max : PySem.W.nsIn K mainGlobals "max" = some none)
    (z_min : PySem.W.nsIn K mainGlobals "min" = some none)
    (z_all : PySem.W.nsIn K mainGlobals "all" = some none)
    (z_any : PySem.W.nsIn K mainGlobals "any" = some none)
    (n0 : PySem.W.nsIn K mainGlobals "WharfError" = some (some (.ref e0)))
    (n1 : PySem.W.nsIn K mainGlobals "NoTable" = some (some (.ref e1)))
    (n2 : PySem.W.nsIn K mainGlobals "NoHouse" = some (some (.ref e2)))
    (n3 : PySem.W.nsIn K mainGlobals "NoDeed" = some (some (.ref e3)))
    (n4 : PySem.W.nsIn K mainGlobals "NoLetter" = some (some (.ref e4)))
    (n5 : PySem.W.nsIn K mainGlobals "NoStand" = some (some (.ref e5)))
    (n6 : PySem.W.nsIn K mainGlobals "NoRoad" = some (some (.ref e6)))
    (n7 : PySem.W.nsIn K mainGlobals "NoPlan" = some (some (.ref e7)))
    (n8 : PySem.W.nsIn K mainGlobals "NoBook" = some (some (.ref e8)))
    (n9 : PySem.W.nsIn K mainGlobals "NoManner" = some (some (.ref e9)))
    (n10 : PySem.W.nsIn K mainGlobals "TooMany" = some (some (.ref e10)))
    (n11 : PySem.W.nsIn K mainGlobals "NoText" = some (some (.ref e11)))
    (n12 : PySem.W.nsIn K mainGlobals "NoRow" = some (some (.ref e12)))
    (n13 : PySem.W.nsIn K mainGlobals "NoName" = some (some (.ref e13)))
    (n14 : PySem.W.nsIn K mainGlobals "Short" = some (some (.ref e14)))
    (nve : PySem.W.nsIn K mainGlobals "ValueError" = some none)
    (xlk : K.lookup e14 = some (excClassObj xnm xqn e14 xN xbs (.ref e0 :: bmVE) true xsn xsub xab xcol xdd xk0 xk1 xk2 xk3 xk5 "ValueError.__new__"))
    (xw : PySem.W.excIn K e0 bmVE "ValueError.__new__" = true)
    (xfi : PySem.W.findIn K (.ref e14) "__init__" = some (some (.ref fI)))
    (li : K.lookup fI = some ⟨.type "function", odI, .func (PySem.W.fnOf "__init__" "Short.__init__" (defArgs sInit) (defBody sInit) (defScope sInit) .none kVI dcI pmI anI cdI ctI), slI⟩)
    (ci : PySem.W.codeIn K cdI "Short.__init__" = true)
    (ki : PySem.W.keepIn K (.ref fI) = true)
    (xkp : PySem.W.keepIn K (.ref e14) = true)
    (xcga : PySem.W.specialIn K (.ref e0) "__getattribute__" = some (some (.builtin "type.__getattribute__")))
    (xcrd : PySem.W.readsIn K e0 (.type "type") = true)
    (xcfc : PySem.W.findCls K (.ref e0) (.type "type") "__init__" = some (.val (.builtin "ValueError.__init__")))
    (xsa : PySem.W.findIn K (.ref e14) "__setattr__" = some (some (.builtin "object.__setattr__")))
    (xno : PySem.W.findIn K (.ref e14) "had" = some none)
    (xcls : PySem.W.clsIn K e14 = some cdx)
    (xga : PySem.W.findIn K (.ref e14) "__getattribute__" = some (some (.builtin "BaseException.__getattribute__")))
    (xgt : PySem.W.findIn K (.ref e14) "__getattr__" = some none)
    (xcl : PySem.W.findIn K (.ref e14) "__class__" = some (some (.builtin "object.__class__")))
    (xgs : PySem.W.specialIn K (.builtin "object.__class__") "__get__" = some (some (.builtin "getset_descriptor.__get__")))
    (xtk : PySem.W.takesIn K (.builtin "object.__class__") = some true)
    (xob : PySem.W.mroIn K e14 (.type "object") = some true)
    (xbe : PySem.W.mroIn K e14 (.type "BaseException") = some true)
    (xve : PySem.W.kitOne K (.ref e14) (.type "ValueError") = some true)
    (xex : PySem.W.exmOne K (.ref e14) (.ref e0) = some true)
    (xes : PySem.W.exmOne K (.ref e14) (.ref e14) = some true)
    (zstr : PySem.W.nsIn K mainGlobals "str" = some none)
    (pns : PySem.W.nsIn K mainGlobals "PARTS_OF_DEED" = some (some (.ref pd)))
    (plk : K.lookup pd = some ⟨.type "dict", none, .dict #[⟨PyData.keyHash w.params "make", .str "make" pt1, .int 3 pu1⟩, ⟨PyData.keyHash w.params "lend", .str "lend" pt2, .int 4 pu2⟩, ⟨PyData.keyHash w.params "use", .str "use" pt3, .int 3 pu3⟩] pep, #[]⟩)
    (psm : (pd == sysModules) = false)
    (xk_1 : PySem.W.kitOne K (.ref e14) (.ref e1) = some false)
    (xk_2 : PySem.W.kitOne K (.ref e14) (.ref e2) = some false)
    (xk_3 : PySem.W.kitOne K (.ref e14) (.ref e3) = some false)
    (xk_4 : PySem.W.kitOne K (.ref e14) (.ref e4) = some false)
    (xk_5 : PySem.W.kitOne K (.ref e14) (.ref e5) = some false)
    (xk_6 : PySem.W.kitOne K (.ref e14) (.ref e6) = some false)
    (xk_7 : PySem.W.kitOne K (.ref e14) (.ref e7) = some false)
    (xk_8 : PySem.W.kitOne K (.ref e14) (.ref e8) = some false)
    (xk_9 : PySem.W.kitOne K (.ref e14) (.ref e9) = some false)
    (xk_10 : PySem.W.kitOne K (.ref e14) (.ref e10) = some false)
    (xk_11 : PySem.W.kitOne K (.ref e14) (.ref e11) = some false)
    (xk_12 : PySem.W.kitOne K (.ref e14) (.ref e12) = some false)
    (xk_13 : PySem.W.kitOne K (.ref e14) (.ref e13) = some false)
    (xk_14 : PySem.W.kitOne K (.ref e14) (.ref e14) = some true)  :
    ∃ fd : FuncData, (∀ (s : Shared) (v : Value), BindsTo s fd ⟨[v], []⟩ [("script", v)]) ∧ ∀ base : Heap, K.In base → base.Ns mainGlobals mg → FnOk l.prog w K mg base CX0 7 fa fd ["script"] (spLaw K) := by
  have e := hfa.symm.trans (PySem.W.mg_of X G a23)
  cases e
  have T : Txt K mg := ⟨PySem.W.mg_none_of X G z_len, PySem.W.mg_none_of X G z_sum, PySem.W.mg_none_of X G z_range, PySem.W.mg_none_of X G z_tuple, PySem.W.mg_none_of X G z_list, PySem.W.mg_none_of X G z_isinstance, PySem.W.mg_none_of X G z_int, PySem.W.mg_none_of X G z_bool, PySem.W.mg_none_of X G z_zip, PySem.W.mg_none_of X G z_enumerate, PySem.W.mg_none_of X G z_max, PySem.W.mg_none_of X G z_min, PySem.W.mg_none_of X G z_all, PySem.W.mg_none_of X G z_any, kit_ii K, kit_ib K⟩
  have Nm : Nms mg (fun i => [e0, e1, e2, e3, e4, e5, e6, e7, e8, e9, e10, e11, e12, e13, e14].getD i 0) := ⟨PySem.W.mg_of X G n0, PySem.W.mg_of X G n1, PySem.W.mg_of X G n2, PySem.W.mg_of X G n3, PySem.W.mg_of X G n4, PySem.W.mg_of X G n5, PySem.W.mg_of X G n6, PySem.W.mg_of X G n7, PySem.W.mg_of X G n8, PySem.W.mg_of X G n9, PySem.W.mg_of X G n10, PySem.W.mg_of X G n11, PySem.W.mg_of X G n12, PySem.W.mg_of X G n13, PySem.W.mg_of X G n14, PySem.W.mg_none_of X G nve⟩
  have XC : XCls K e14 := ⟨show (PySem.W.clsIn K e14).isSome = true by rw [xcls]; rfl, xga, xgt, xcl, xgs, xtk, xob, xbe⟩
  have Tg : TgtS K (fun i => [e0, e1, e2, e3, e4, e5, e6, e7, e8, e9, e10, e11, e12, e13, e14].getD i 0) 14 := ⟨XC, xve, xex, fun i h1 h2 => match i, h1, h2 with | 0, h, _ => absurd h (by omega) | 1, _, _ => xk_1 | 2, _, _ => xk_2 | 3, _, _ => xk_3 | 4, _, _ => xk_4 | 5, _, _ => xk_5 | 6, _, _ => xk_6 | 7, _, _ => xk_7 | 8, _, _ => xk_8 | 9, _, _ => xk_9 | 10, _, _ => xk_10 | 11, _, _ => xk_11 | 12, _, _ => xk_12 | 13, _, _ => xk_13 | 14, _, _ => xk_14 | _ + 15, _, h => absurd h (by omega)⟩
  have CD : ∃ cd, PySem.W.clsIn K e14 = some cd ∧ cd.mro = .ref e14 :: .ref e0 :: bmVE ∧ cd.hasDict = true := ⟨_, by unfold PySem.W.clsIn; rw [xlk], rfl, rfl⟩
  have OS : ShortOk K mg e0 e14 fI := ⟨PySem.W.mg_of X G n0, PySem.W.mg_of X G n14, ⟨⟨_, _, _, _, _, _, _, _, _, _, _, _, _, _, xlk⟩, xw, xfi, ⟨_, li, rfl⟩, xkp⟩, ⟨xcga, xcrd, xcfc⟩, ⟨xsa, xob, CD, xno⟩, ⟨XC, CD.imp fun cd h => ⟨h.1, h.2.2⟩, xno⟩, xes⟩
  have FI := fun_mk (x := "__init__") (qual := "Short.__init__") (st := sInit) li ci ki
  have BI := FI.binds (ps := ["self", "had"]) fun _ _ _ _ _ _ us hl => match us, hl with | [_, _], _ => rfl
  have PO : PartsOk l.prog w K mg := parts_mk (PySem.W.mg_none_of X G zstr) (PySem.W.mg_of X G pns) plk psm
  have A1 := at_mk (st := sWhole) (ps := ["thing"]) X G a1 l1 c1 k1 fun _ _ _ _ _ _ us hl => match us, hl with | [_], _ => rfl
  have A2 := at_mk (st := sBetween) (ps := ["thing", "least", "most"]) X G a2 l2 c2 k2 fun _ _ _ _ _ _ us hl => match us, hl with | [_, _, _], _ => rfl
  have A3 := at_mk (st := sHouse) (ps := ["table", "thing"]) X G a3 l3 c3 k3 fun _ _ _ _ _ _ us hl => match us, hl with | [_, _], _ => rfl
  have A4 := at_mk (st := sRights) (ps := ["table", "house"]) X G a4 l4 c4 k4 fun _ _ _ _ _ _ us hl => match us, hl with | [_, _], _ => rfl
  have A5 := at_mk (st := sStock) (ps := ["table"]) X G a5 l5 c5 k5 fun _ _ _ _ _ _ us hl => match us, hl with | [_], _ => rfl
  have A6 := at_mk (st := sTextNum) (ps := ["thing"]) X G a6 l6 c6 k6 fun _ _ _ _ _ _ us hl => match us, hl with | [_], _ => rfl
  have A7 := at_mk (st := sIsDeed) (ps := ["thing"]) X G a7 l7 c7 k7 fun _ _ _ _ _ _ us hl => match us, hl with | [_], _ => rfl
  have A8 := at_mk (st := sNeedH) (ps := ["table", "deed"]) X G a8 l8 c8 k8 fun _ _ _ _ _ _ us hl => match us, hl with | [_, _], _ => rfl
  have A9 := at_mk (st := sPlace) (ps := ["table", "deed"]) X G a9 l9 c9 k9 fun _ _ _ _ _ _ us hl => match us, hl with | [_, _], _ => rfl
  have A10 := at_mk (st := sRaised) (ps := ["table", "house", "place", "k"]) X G a10 l10 c10 k10 fun _ _ _ _ _ _ us hl => match us, hl with | [_, _, _, _], _ => rfl
  have A11 := at_mk (st := sDone) (ps := ["table", "deed"]) X G a11 l11 c11 k11 fun _ _ _ _ _ _ us hl => match us, hl with | [_, _], _ => rfl
  have A12 := at_mk (st := sDraw) (ps := ["script", "k"]) X G a12 l12 c12 k12 fun _ _ _ _ _ _ us hl => match us, hl with | [_, _], _ => rfl
  have A13 := at_mk (st := sLWhole) (ps := ["thing"]) X G a13 l13 c13 k13 fun _ _ _ _ _ _ us hl => match us, hl with | [_], _ => rfl
  have A14 := at_mk (st := sEntry) (ps := ["draw"]) X G a14 l14 c14 k14 fun _ _ _ _ _ _ us hl => match us, hl with | [_], _ => rfl
  have A15 := at_mk (st := sTable) (ps := ["script", "n", "at"]) X G a15 l15 c15 k15 fun _ _ _ _ _ _ us hl => match us, hl with | [_, _, _], _ => rfl
  have A16 := at_mk (st := sLRights) (ps := ["table", "house"]) X G a16 l16 c16 k16 fun _ _ _ _ _ _ us hl => match us, hl with | [_, _], _ => rfl
  have A17 := at_mk (st := sLIsTable) (ps := ["thing", "n"]) X G a17 l17 c17 k17 fun _ _ _ _ _ _ us hl => match us, hl with | [_, _], _ => rfl
  have A18 := at_mk (st := sRefused) (ps := ["table", "deed"]) X G a18 l18 c18 k18 fun _ _ _ _ _ _ us hl => match us, hl with | [_, _], _ => rfl
  have A19 := at_mk (st := sTold) (ps := ["table", "deed"]) X G a19 l19 c19 k19 fun _ _ _ _ _ _ us hl => match us, hl with | [_, _], _ => rfl
  have A20 := at_mk (st := sDeed) (ps := ["table", "draw"]) X G a20 l20 c20 k20 fun _ _ _ _ _ _ us hl => match us, hl with | [_, _], _ => rfl
  have A21 := at_mk (st := sDue) (ps := ["table", "deed"]) X G a21 l21 c21 k21 fun _ _ _ _ _ _ us hl => match us, hl with | [_, _], _ => rfl
  have A22 := at_mk (st := sMoved) (ps := ["table", "found", "deed"]) X G a22 l22 c22 k22 fun _ _ _ _ _ _ us hl => match us, hl with | [_, _, _], _ => rfl
  have A23 := at_mk (st := sLaw) (ps := ["script"]) X G a23 l23 c23 k23 fun _ _ _ _ _ _ us hl => match us, hl with | [_], _ => rfl
  refine ⟨PySem.W.fnOf "law" "law" (defArgs sLaw) (defBody sLaw) (defScope sLaw) .none kV23 dc23 pm23 an23 cd23 ct23, fun s v => .of_eq rfl, fun base kb nb => ?_⟩
  have D1 := A1.def (P := l.prog) (w := w) (base := base) (ok_whole A1.F T)
  have D2 := A2.def (P := l.prog) (w := w) (base := base) (ok_between A2.F T D1)
  have D3 := A3.def (P := l.prog) (w := w) (base := base) (ok_house A3.F T D2)
  have D4 := A4.def (P := l.prog) (w := w) (base := base) (ok_rights A4.F T D3)
  have D5 := A5.def (P := l.prog) (w := w) (base := base) (ok_stock A5.F T)
  have D6 := A6.def (P := l.prog) (w := w) (base := base) (ok_textnum A6.F T PO D1)
  have D7 := A7.def (P := l.prog) (w := w) (base := base) (ok_isdeed A7.F T PO D6)
  have D8 := A8.def (P := l.prog) (w := w) (base := base) (ok_needH A8.F T D3)
  have D9 := A9.def (P := l.prog) (w := w) (base := base) (ok_place A9.F T)
  have D10 := A10.def (P := l.prog) (w := w) (base := base) (ok_raised A10.F)
  have D11 := A11.defD (P := l.prog) (w := w) (base := base) (ok_done A11.F OS (ok_init FI OS) BI D7 D8 D4 D10 D9)
  have D12 := A12.def (P := l.prog) (w := w) (base := base) (ok_draw A12.F T)
  have D13 := A13.def (P := l.prog) (w := w) (base := base) (ok_lwhole A13.F T)
  have D14 := A14.def (P := l.prog) (w := w) (base := base) (ok_entry A14.F)
  have D15 := A15.def (P := l.prog) (w := w) (base := base) (ok_table A15.F T D12 D14)
  have D16 := A16.def (P := l.prog) (w := w) (base := base) (ok_lrights A16.F T)
  have D17 := A17.def (P := l.prog) (w := w) (base := base) (ok_listable A17.F T D13)
  have D18 := A18.def (P := l.prog) (w := w) (base := base) (ok_refused A18.F T Nm Tg D11)
  have D19 := A19.def (P := l.prog) (w := w) (base := base) (ok_told A19.F OS D11)
  have D20 := A20.def (P := l.prog) (w := w) (base := base) (ok_deed A20.F T D16)
  have D21 := A21.def (P := l.prog) (w := w) (base := base) (ok_dueD A21.F T)
  have D22 := A22.def (P := l.prog) (w := w) (base := base) (ok_moved A22.F T D4 D16 D5)
  exact ok_law A23.F T D12 D15 D20 D16 D19 D13 D18 D17 D21 D22
theorem walk {l : PySem.W.OpenLaw} {q : Program} {loose : List Str} {XP : (Str → Option Value) → Heap → Prop} {YP : World → Heap → Prop} {d : DefRec} {K : Params → PySem.W.Frag} (hn : l.most = some 63) (hdf : d.params.defaults = [])
    (hY : ∀ (w : World) (h : Heap), YP w h → (K w.params).In h)
    (F : ∀ (w : World) (mg : Str → Option Value) (fa : Addr) (h : Heap), (K w.params).In h → h.Ns mainGlobals mg → mg d.name = some (.ref fa) →
      ∃ fd : FuncData, (∀ (s : Shared) (u : Value), BindsTo s fd ⟨[u], []⟩ [("script", u)]) ∧ ∀ base : Heap, (K w.params).In base → base.Ns mainGlobals mg → FnOk l.prog w (K w.params) mg base CX0 7 fa fd ["script"] (spLaw (K w.params))) :
    PySem.W.WalkO q loose XP YP l.row.toRowW d [] (fun f vs => PySem.call f vs) :=
  L2.walk_of (n := 63) (k := 7) (x := "script") (CX := fun _ => CX0) (sp := fun w => spLaw (K w.params)) hn (by decide) hdf ⟨rfl, by decide, by decide⟩ hY F (fun _ _ a ns hl _ hS => ⟨a, ns, rfl, hS, hl, fun _ => rfl⟩) fun _ _ _ _ _ z => z
end Lw
theorem PySem.W.Fast.te860490446252361486 : True := trivial
open PySem PySem.W PyProof.Rows
set_option maxRecDepth 100000 in
set_option maxHeartbeats 0 in
theorem PySem.Challenge.cw_lendwharf_k07_deeds_done_holds : PySem.Challenge.rw_lendwharf_k07_deeds_done.Holds := by
  w_on; o_law; k_head; (case hw => w_witness2)
  k_fill
  refine Lw.walk (l := PySem.Challenge.rw_lendwharf_k07_deeds_done) rfl rfl (fun w h Y => PySem.W.kIn_of Y) ?F
  case F =>
    intro w mg fa h KX G hmg
    refine' Lw.all_mk KX G hmg ?a1 ?l1 ?c1 ?k1 ?a2 ?l2 ?c2 ?k2 ?a3 ?l3 ?c3 ?k3 ?a4 ?l4 ?c4 ?k4 ?a5 ?l5 ?c5 ?k5 ?a6 ?l6 ?c6 ?k6 ?a7 ?l7 ?c7 ?k7 ?a8 ?l8 ?c8 ?k8 ?a9 ?l9 ?c9 ?k9 ?a10 ?l10 ?c10 ?k10 ?a11 ?l11 ?c11 ?k11 ?a12 ?l12 ?c12 ?k12 ?a13 ?l13 ?c13 ?k13 ?a14 ?l14 ?c14 ?k14 ?a15 ?l15 ?c15 ?k15 ?a16 ?l16 ?c16 ?k16 ?a17 ?l17 ?c17 ?k17 ?a18 ?l18 ?c18 ?k18 ?a19 ?l19 ?c19 ?k19 ?a20 ?l20 ?c20 ?k20 ?a21 ?l21 ?c21 ?k21 ?a22 ?l22 ?c22 ?k22 ?a23 ?l23 ?c23 ?k23 ?z_len ?z_sum ?z_range ?z_tuple ?z_list ?z_isinstance ?z_int ?z_bool ?z_zip ?z_enumerate ?z_max ?z_min ?z_all ?z_any ?n0 ?n1 ?n2 ?n3 ?n4 ?n5 ?n6 ?n7 ?n8 ?n9 ?n10 ?n11 ?n12 ?n13 ?n14 ?nve ?xlk ?xw ?xfi ?li ?ci ?ki ?xkp ?xcga ?xcrd ?xcfc ?xsa ?xno ?xcls ?xga ?xgt ?xcl ?xgs ?xtk ?xob ?xbe ?xve ?xex ?xes ?zstr ?pns ?plk ?psm ?xk_1 ?xk_2 ?xk_3 ?xk_4 ?xk_5 ?xk_6 ?xk_7 ?xk_8 ?xk_9 ?xk_10 ?xk_11 ?xk_12 ?xk_13 ?xk_14
    (case a1 => k_is)
    (case l1 => k_is)
    (case c1 => k_is)
    (case k1 => k_is)
    (case a2 => k_is)
    (case l2 => k_is)
    (case c2 => k_is)
    (case k2 => k_is)
    (case a3 => k_is)
    (case l3 => k_is)
    (case c3 => k_is)
    (case k3 => k_is)
    (case a4 => k_is)
    (case l4 => k_is)
    (case c4 => k_is)
    (case k4 => k_is)
    (case a5 => k_is)
    (case l5 => k_is)
    (case c5 => k_is)
    (case k5 => k_is)
    (case a6 => k_is)
    (case l6 => k_is)
    (case c6 => k_is)
    (case k6 => k_is)
    (case a7 => k_is)
    (case l7 => k_is)
    (case c7 => k_is)
    (case k7 => k_is)
    (case a8 => k_is)
    (case l8 => k_is)
    (case c8 => k_is)
    (case k8 => k_is)
    (case a9 => k_is)
    (case l9 => k_is)
    (case c9 => k_is)
    (case k9 => k_is)
    (case a10 => k_is)
    (case l10 => k_is)
    (case c10 => k_is)
    (case k10 => k_is)
    (case a11 => k_is)
    (case l11 => k_is)
    (case c11 => k_is)
    (case k11 => k_is)
    (case a12 => k_is)
    (case l12 => k_is)
    (case c12 => k_is)
    (case k12 => k_is)
    (case a13 => k_is)
    (case l13 => k_is)
    (case c13 => k_is)
    (case k13 => k_is)
    (case a14 => k_is)
    (case l14 => k_is)
    (case c14 => k_is)
    (case k14 => k_is)
    (case a15 => k_is)
    (case l15 => k_is)
    (case c15 => k_is)
    (case k15 => k_is)
    (case a16 => k_is)
    (case l16 => k_is)
    (case c16 => k_is)
    (case k16 => k_is)
    (case a17 => k_is)
    (case l17 => k_is)
    (case c17 => k_is)
    (case k17 => k_is)
    (case a18 => k_is)
    (case l18 => k_is)
    (case c18 => k_is)
    (case k18 => k_is)
    (case a19 => k_is)
    (case l19 => k_is)
    (case c19 => k_is)
    (case k19 => k_is)
    (case a20 => k_is)
    (case l20 => k_is)
    (case c20 => k_is)
    (case k20 => k_is)
    (case a21 => k_is)
    (case l21 => k_is)
    (case c21 => k_is)
    (case k21 => k_is)
    (case a22 => k_is)
    (case l22 => k_is)
    (case c22 => k_is)
    (case k22 => k_is)
    (case a23 => k_is)
    (case l23 => k_is)
    (case c23 => k_is)
    (case k23 => k_is)
    (case z_len => k_is)
    (case z_sum => k_is)
    (case z_range => k_is)
    (case z_tuple => k_is)
    (case z_list => k_is)
    (case z_isinstance => k_is)
    (case z_int => k_is)
    (case z_bool => k_is)
    (case z_zip => k_is)
    (case z_enumerate => k_is)
    (case z_max => k_is)
    (case z_min => k_is)
    (case z_all => k_is)
    (case z_any => k_is)
    (case n0 => k_is)
    (case n1 => k_is)
    (case n2 => k_is)
    (case n3 => k_is)
    (case n4 => k_is)
    (case n5 => k_is)
    (case n6 => k_is)
    (case n7 => k_is)
    (case n8 => k_is)
    (case n9 => k_is)
    (case n10 => k_is)
    (case n11 => k_is)
    (case n12 => k_is)
    (case n13 => k_is)
    (case n14 => k_is)
    (case nve => k_is)
    (case xlk => k_is)
    (case xw => k_exc)
    (case xfi => k_is)
    (case li => k_is)
    (case ci => k_is)
    (case ki => k_is)
    (case xkp => k_is)
    (case xcga => k_is)
    (case xcrd => k_is)
    (case xcfc => k_is)
    (case xsa => k_is)
    (case xno => k_is)
    (case xcls => k_is)
    (case xga => k_is)
    (case xgt => k_is)
    (case xcl => k_is)
    (case xgs => k_is)
    (case xtk => k_is)
    (case xob => k_is)
    (case xbe => k_is)
    (case xve => kit_is)
    (case xex => kts_exm)
    (case xes => kts_exm)
    (case zstr => k_is)
    (case pns => k_is)
    (case plk => k_is)
    (case psm => (first | rfl | decide))
    (case xk_1 => kit_is)
    (case xk_2 => kit_is)
    (case xk_3 => kit_is)
    (case xk_4 => kit_is)
    (case xk_5 => kit_is)
    (case xk_6 => kit_is)
    (case xk_7 => kit_is)
    (case xk_8 => kit_is)
    (case xk_9 => kit_is)
    (case xk_10 => kit_is)
    (case xk_11 => kit_is)
    (case xk_12 => kit_is)
    (case xk_13 => kit_is)
    (case xk_14 => kit_is)

