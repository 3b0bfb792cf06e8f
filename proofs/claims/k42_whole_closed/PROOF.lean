import PyProof.Rows.All
import Wide.All
import OpenK.AllK
import Wide.FinOn
import Lean
import PyProof.EqAt
import PyProof.EqKinds
import PyProof.TupleCall
import PyProof.NeKinds
import PyProof.CompFree
import PyProof.CompUse
import PyProof.ZipIter
import PyProof.StrWalks
import PyProof.ListRange
import PyProof.ListMulRoad
import KE.KMinBuiltin
import PyProof.Rows.CallKw2
import KE.KSortTup
import PyProof.StrCalls2
import PyProof.StrLawsChain
import PyProof.StrLawsTight
import PyProof.Rows.StrItems
import KE.KxAffix
import PySem.Challenge.RW_cardplaces_k42_whole_closed
set_option Elab.async false
set_option linter.all false
set_option maxRecDepth 100000
/-! THE HAND LAYER, for ints, bools, texts, own classes, LISTS and tuples (index, slices, in, append, pop ..), calls, loops. Paste it whole ahead of your own text; what your proof does not reach may be deleted. -/
namespace L2
open PySem PySem.Spec PyProof.Rows

/-- a key: an int or a str -/
noncomputable abbrev Key := Sum Int Str
noncomputable def keyIs : Key → Value → Bool
  | .inl k, v => Value.isInt k v
  | .inr x, v => Value.isStrOf x v
noncomputable def keyH (w : World) : Key → Int
  | .inl k => hashInt k
  | .inr x => hashStr w x
theorem keyIs_shape : ∀ {k : Key} {v : Value}, keyIs k v = true → (∃ i t, k = Sum.inl i ∧ v = Value.int i t) ∨ (∃ x t, k = Sum.inr x ∧ v = Value.str x t)
  | .inl i, v, h => by
    obtain ⟨t, e⟩ := Value.isInt_shape (k := i) (v := v) h
    exact .inl ⟨i, t, rfl, e⟩
  | .inr x, v, h => by
    obtain ⟨t, e⟩ := Value.isStrOf_shape (x := x) (v := v) h
    exact .inr ⟨x, t, rfl, e⟩
theorem keyIs_int (i : Int) (t : Tok) : keyIs (.inl i) (.int i t) = true := by simp [keyIs, Value.isInt]
theorem keyIs_str (x : Str) (t : Tok) : keyIs (.inr x) (.str x t) = true := by simp [keyIs, Value.isStrOf]
theorem key_ll (a b : Int) : decide ((Sum.inl a : Key) = Sum.inl b) = (a == b) := by
  by_cases e : a = b
  · subst e; simp
  · have h : ¬ (Sum.inl a : Key) = Sum.inl b := fun q => e (Sum.inl.inj q)
    rw [decide_eq_false h]
    exact (beq_eq_false_iff_ne.mpr e).symm
theorem key_rr (a b : Str) : decide ((Sum.inr a : Key) = Sum.inr b) = decide (a = b) := by
  by_cases e : a = b
  · subst e; simp
  · have h : ¬ (Sum.inr a : Key) = Sum.inr b := fun q => e (Sum.inr.inj q)
    rw [decide_eq_false h, decide_eq_false e]
theorem key_lr (a : Int) (b : Str) : decide ((Sum.inl a : Key) = Sum.inr b) = false := decide_eq_false (fun q => nomatch q)
theorem key_rl (a : Str) (b : Int) : decide ((Sum.inr a : Key) = Sum.inl b) = false := decide_eq_false (fun q => nomatch q)

noncomputable def mixKind (prog : Program) (w : World) : PySem.KeyKind prog w Key where
  is := keyIs
  hash := keyH w
  inj := fun v a b ha hb => by
    rcases keyIs_shape ha with ⟨i, t, rfl, rfl⟩ | ⟨x, t, rfl, rfl⟩
    · rcases keyIs_shape hb with ⟨j, u, rfl, e⟩ | ⟨y, u, rfl, e⟩
      · injection e with e1 _; rw [e1]
      · exact nomatch e
    · rcases keyIs_shape hb with ⟨j, u, rfl, e⟩ | ⟨y, u, rfl, e⟩
      · exact nomatch e
      · injection e with e1 _; rw [e1]
  byValue := fun k v h => by
    rcases keyIs_shape h with ⟨i, t, rfl, rfl⟩ | ⟨x, t, rfl, rfl⟩ <;> rfl
  pyHash := fun hv h => by
    rcases keyIs_shape hv with ⟨i, t, rfl, rfl⟩ | ⟨x, t, rfl, rfl⟩
    · exact wpAny_pyHash_int h
    · exact wpAny_pyHash_str h
  eqBool := fun hu hv h => by
    rcases keyIs_shape hu with ⟨i, t, rfl, rfl⟩ | ⟨x, t, rfl, rfl⟩
    · rcases keyIs_shape hv with ⟨j, u, rfl, rfl⟩ | ⟨y, u, rfl, rfl⟩
      · rw [key_ll] at h; exact wpAny_eqBool_int h
      · rw [key_lr] at h; exact SeqAt.EqAt.int_str i t y u _ _ _ _ h
    · rcases keyIs_shape hv with ⟨j, u, rfl, rfl⟩ | ⟨y, u, rfl, rfl⟩
      · rw [key_rl] at h; exact SeqAt.EqAt.str_int x t j u _ _ _ _ h
      · rw [key_rr] at h; exact wpAny_eqBool_str h
  «strs» := fun k x t v h => by
    rcases keyIs_shape h with ⟨i, u, rfl, e⟩ | ⟨y, u, rfl, e⟩
    · exact nomatch e
    · injection e with e1 _
      subst e1
      cases v <;> rfl

theorem mixKind_int (prog : Program) (w : World) (i : Int) (t : Tok) : (mixKind prog w).is (.inl i) (.int i t) = true := keyIs_int i t
theorem mixKind_str (prog : Program) (w : World) (x : Str) (t : Tok) : (mixKind prog w).is (.inr x) (.str x t) = true := keyIs_str x t
end L2

namespace L2
open PySem PySem.Spec PyProof.Rows

/-- a value, without the heap -/
inductive V where
  | non | bl (b : Bool) | int (i : Int) | str (x : Str) | byt (b : Array UInt8) | flt (b : UInt64) | ref (a : Addr) | ty (n : String)
  deriving DecidableEq

noncomputable def RelV : V → Value → Prop
  | .non, u => u = Value.none
  | .bl b, u => u = Value.bool b
  | .int i, u => ∃ t, u = Value.int i t
  | .str x, u => ∃ t, u = Value.str x t
  | .byt b, u => ∃ t, u = Value.bytes b t
  | .flt b, u => ∃ t, u = Value.float b t
  | .ref a, u => u = Value.ref a
  | .ty n, u => u = Value.type n

noncomputable abbrev Vals : List V → List Value → Prop := Paired RelV
theorem Vals.length {xs : List V} {us : List Value} (r : Vals xs us) : xs.length = us.length := Paired.length r
theorem Vals.get : ∀ {xs : List V} {us : List Value} {i : Nat} {x : V}, Vals xs us → xs[i]? = some x → ∃ u, us[i]? = some u ∧ RelV x u
  | _, _, _, _, .nil, e => by simp at e
  | _, _, 0, _, .cons r _, e => by simp at e; subst e; exact ⟨_, rfl, r⟩
  | _, _, i + 1, x, .cons _ t, e => by
    obtain ⟨u, h1, h2⟩ := Vals.get (i := i) (x := x) t (by simpa using e)
    exact ⟨u, by simpa using h1, h2⟩
theorem Vals.set {x : V} {u : Value} (r : RelV x u) : ∀ {xs : List V} {us : List Value} (i : Nat), Vals xs us → Vals (xs.set i x) (us.set i u)
  | _, _, _, .nil => .nil
  | _, _, 0, .cons _ t => .cons r t
  | _, _, i + 1, .cons q t => .cons q (Vals.set r i t)
theorem Vals.append : ∀ {xs ys : List V} {us ws : List Value}, Vals xs us → Vals ys ws → Vals (xs ++ ys) (us ++ ws)
  | _, _, _, _, .nil, s => s
  | _, _, _, _, .cons r t, s => .cons r (Vals.append t s)
theorem Vals.take : ∀ {xs : List V} {us : List Value} (n : Nat), Vals xs us → Vals (xs.take n) (us.take n)
  | _, _, 0, _ => .nil
  | _, _, _ + 1, .nil => .nil
  | _, _, n + 1, .cons r t => .cons r (Vals.take n t)
theorem Vals.drop : ∀ {xs : List V} {us : List Value} (n : Nat), Vals xs us → Vals (xs.drop n) (us.drop n)
  | _, _, 0, r => r
  | _, _, _ + 1, .nil => .nil
  | _, _, n + 1, .cons _ t => Vals.drop n t
theorem Vals.none_of : ∀ {xs : List V} {us : List Value} {i : Nat}, Vals xs us → xs[i]? = none → us[i]? = none := fun {xs us i} r e => by
  have h1 := r.length
  have h2 : xs.length ≤ i := List.getElem?_eq_none_iff.mp e
  exact List.getElem?_eq_none_iff.mpr (by omega)

noncomputable def RelO : Option V → Option Value → Prop
  | some v, some u => RelV v u
  | none, none => True
  | _, _ => False
noncomputable def KV {κ : Type} : List (κ × V) → List (κ × Value) → Prop := Paired fun (p : κ × V) (q : κ × Value) => p.1 = q.1 ∧ RelV p.2 q.2

/-- a key of a dict (00_mix): an int or a text -/
noncomputable def kV : Key → V
  | .inl i => .int i
  | .inr x => .str x

/-- what stands at a tracked address -/
inductive HO where
  /-- a list -/
  | lst (xs : List V)
  /-- a tuple (never changes) -/
  | tup (xs : List V)
  /-- a dict whose keys are ints and texts; one whose keys are tuples of ints and texts (the empty one is both) -/
  | dK (kvs : List (Key × V)) | dT (kvs : List (List Key × V))
  /-- a set of ints: its members, its size -/
  | set (S : Int → Bool) (n : Nat)
  /-- an instance of the class at C, its dict at dx, its attributes -/
  | ins (C dx : Addr) (fs : List (Str × V))
  /-- the dict of the instance at x -/
  | own (x : Addr)
  /-- the dict of an exception -/
  | xd (fs : List (Str × V))
  /-- a bound method, f of x -/
  | met (f x : Addr)
  /-- a range object lo, lo + 1, .. below hi -/
  | rng (lo hi : Int)
  /-- a thing that is known to the object (the script; a dict while a loop walks it): read, never written while it is so -/
  | frz (o : Obj) (u : HO)
  /-- a code object's table -/
  | tbl (ps : Array Value)
  /-- any other thing, by what is true of its one object (a def of one's own: SetO a S n := HO.ext fun h => ..) -/
  | ext (φ : Heap → Prop)

noncomputable abbrev Hp := Addr → Option HO
noncomputable def upd (H : Hp) (a : Addr) (o : HO) : Hp := fun b => if b = a then some o else H b
theorem upd_same {H : Hp} {a : Addr} {o : HO} : upd H a o a = some o := by unfold upd; rw [if_pos rfl]
theorem upd_ne {H : Hp} {a b : Addr} {o : HO} (h : b ≠ a) : upd H a o b = H b := by unfold upd; rw [if_neg h]
/-- two objects of different content stand apart -/
theorem ne_of {H : Hp} {a b : Addr} {o u : HO} (h : H a = some o) (h' : H b = some u) (d : o ≠ u) : a ≠ b := by
  intro e; subst e; rw [h] at h'; exact d (Option.some.inj h')
theorem ne_of_none {H : Hp} {a b : Addr} {o : HO} (h : H a = some o) (h' : H b = none) : a ≠ b := by
  intro e; subst e; rw [h] at h'; cases h'

section
variable (P : Program) (w : World)
noncomputable def ObjOk (H : Hp) (h : Heap) (a : Addr) : HO → Prop
  | .lst xs => xs.length ≤ sizeLine ∧ ∃ (its : List Value) (n : Nat), Vals xs its ∧ h.get? a = some { cls := .type "list", data := .seq its.toArray n }
  | .tup xs => xs.length ≤ sizeLine ∧ ∃ its : List Value, Vals xs its ∧ IsTup h a its.toArray
  | .dK kvs => kvs.length ≤ sizeLine ∧ (a == sysModules) = false ∧ ∃ vs, KV kvs vs ∧ h.DictOf (mixKind P w) a vs
  | .dT kvs => kvs.length ≤ sizeLine ∧ (a == sysModules) = false ∧ ∃ xs : List (List Key × Addr × Value),
      Paired (fun (p : List Key × V) (q : List Key × Addr × Value) => p.1 = q.1 ∧ H q.2.1 = some (.tup (p.1.map kV)) ∧ RelV p.2 q.2.2) kvs xs ∧
      ∃ o es ep, h.get? a = some o ∧ o.ExactDict ∧ o.data = .dict es ep ∧ es.toList = xs.map (entryOfKey (tupleKind (mixKind P w))) ∧ (xs.map (·.1)).Nodup
  | .set S n => h.SetOf (intKind P w) a S n
  | .ins C dx fs => H dx = some (.own a) ∧ fs.length ≤ 1000 ∧ dx ≠ a ∧ h.get? a = some (PySem.W.instObj C dx) ∧
      ∃ mA, h.Ns1 dx mA ∧ (∀ f, RelO (fs.lookup f) (mA f)) ∧ PySem.Within mA (fs.map (·.1))
  | .own _ => ∃ o, h.get? a = some o
  | .xd fs => ∃ mA, h.Ns1 a mA ∧ ∀ f, RelO (fs.lookup f) (mA f)
  | .rng lo hi => ∃ t u v, h.get? a = some { cls := .type "range", data := .fields #[.int lo t, .int hi u, .int 1 v] }
  | .frz o u => h.get? a = some o ∧ ObjOk H h a u
  | .tbl ps => h.get? a = some { cls := .none, data := .fields ps }
  | .met f x => h.get? a = some (PySem.W.methodObj (.ref f) (.ref x))
  | .ext φ => φ h ∧ (∃ o, h.get? a = some o) ∧ ∀ h1 h2 : Heap, φ h1 → (∀ o, h1.get? a = some o → h2.get? a = some o) → φ h2
/-- the abstract heap is held -/
noncomputable def HOk (H : Hp) (h : Heap) : Prop := ∀ a o, H a = some o → ObjOk P w H h a o
end

section
variable {P : Program} {w : World} {H H' : Hp} {h h' : Heap} {a : Addr} {o : HO}
theorem ObjOk.lt (x : ObjOk P w H h a o) : a < h.objs.size := by
  cases o with
  | lst xs => obtain ⟨_, _, _, _, e⟩ := x; exact Heap.lt_size e
  | tup xs => obtain ⟨_, _, _, p⟩ := x; exact p.lt
  | dK kvs => obtain ⟨_, _, _, _, o, _, _, e, _⟩ := x; exact Heap.lt_size e
  | dT kvs => obtain ⟨_, _, _, _, o, _, _, e, _⟩ := x; exact Heap.lt_size e
  | set S n => obtain ⟨o, _, _, _, e, _⟩ := x; exact Heap.lt_size e
  | ins C dx fs => obtain ⟨_, _, _, e, _⟩ := x; exact Heap.lt_size e
  | own y => obtain ⟨_, e⟩ := x; exact Heap.lt_size e
  | xd fs => obtain ⟨_, ⟨_, _, _, e, _⟩, _⟩ := x; exact Heap.lt_size e
  | rng lo hi => obtain ⟨_, _, _, e⟩ := x; exact Heap.lt_size e
  | frz ob u => obtain ⟨e, _⟩ := x; exact Heap.lt_size e
  | tbl ps => exact Heap.lt_size (show h.get? a = some _ from x)
  | met f y => exact Heap.lt_size (show h.get? a = some _ from x)
  | ext φ => obtain ⟨_, ⟨_, e⟩, _⟩ := x; exact Heap.lt_size e
theorem Paired.mapP {α β : Type} {F G : α → β → Prop} : ∀ {l₁ : List α} {l₂ : List β}, Paired F l₁ l₂ → (∀ a b, F a b → G a b) → Paired G l₁ l₂
  | _, _, .nil, _ => .nil
  | _, _, .cons r t, f => .cons (f _ _ r) (Paired.mapP t f)
/-- what an object's description leans on: its own object, its own dict, the tuples -/
theorem ObjOk.stay (x : ObjOk P w H h a o) (k : ∀ b u, (b = a ∨ H b = some (.own a)) → h.get? b = some u → h'.get? b = some u)
    (ho : ∀ b, H b = some (.own a) → H' b = some (.own a)) (ht : ∀ b xs, H b = some (.tup xs) → H' b = some (.tup xs)) : ObjOk P w H' h' a o := by
  induction o with
  | lst xs => obtain ⟨z, its, n, r, e⟩ := x; exact ⟨z, its, n, r, k _ _ (.inl rfl) e⟩
  | tup xs => obtain ⟨z, its, r, ob, e, c⟩ := x; exact ⟨z, its, r, ob, k _ _ (.inl rfl) e, c⟩
  | dK kvs => obtain ⟨z, y, vs, r, ob, es, ep, e, c⟩ := x; exact ⟨z, y, vs, r, ob, es, ep, k _ _ (.inl rfl) e, c⟩
  | dT kvs =>
    obtain ⟨z, y, xs, r, ob, es, ep, e, c⟩ := x
    exact ⟨z, y, xs, Paired.mapP r fun p q z => ⟨z.1, ht _ _ z.2.1, z.2.2⟩, ob, es, ep, k _ _ (.inl rfl) e, c⟩
  | set S n => obtain ⟨ob, es, ep, t, e, c⟩ := x; exact ⟨ob, es, ep, t, k _ _ (.inl rfl) e, c⟩
  | ins C dx fs =>
    obtain ⟨d, z, ne, e, mA, ⟨od, es, ep, e2, c⟩, r⟩ := x
    exact ⟨ho _ d, z, ne, k _ _ (.inl rfl) e, mA, ⟨od, es, ep, k _ _ (.inr d) e2, c⟩, r⟩
  | own y => obtain ⟨ob, e⟩ := x; exact ⟨ob, k _ _ (.inl rfl) e⟩
  | xd fs => obtain ⟨mA, ⟨od, es, ep, e, c⟩, r⟩ := x; exact ⟨mA, ⟨od, es, ep, k _ _ (.inl rfl) e, c⟩, r⟩
  | rng lo hi => obtain ⟨t, u, v, e⟩ := x; exact ⟨t, u, v, k _ _ (.inl rfl) e⟩
  | frz ob u ih => obtain ⟨e, q⟩ := x; exact ⟨k _ _ (.inl rfl) e, ih q⟩
  | tbl ps =>
    have e : h.get? a = some { cls := .none, data := .fields ps } := x
    show h'.get? a = some { cls := .none, data := .fields ps }
    exact k a _ (.inl rfl) e
  | met f y =>
    have e : h.get? a = some (PySem.W.methodObj (.ref f) (.ref y)) := x
    show h'.get? a = some (PySem.W.methodObj (.ref f) (.ref y))
    exact k a _ (.inl rfl) e
  | ext φ => obtain ⟨p, ⟨o, e⟩, st⟩ := x; exact ⟨st _ _ p fun o q => k _ _ (.inl rfl) q, ⟨o, k _ _ (.inl rfl) e⟩, st⟩
theorem HOk.lt (x : HOk P w H h) (e : H a = some o) : a < h.objs.size := (x a o e).lt
theorem HOk.fresh (x : HOk P w H h) (e : h.objs.size ≤ a) : H a = none := by
  cases q : H a with
  | none => rfl
  | some u => exact absurd (Nat.lt_of_lt_of_le (x.lt q) e) (Nat.lt_irrefl _)
/-- every object of the heap is kept -/
theorem HOk.kept (x : HOk P w H h) (k : ∀ b u, h.get? b = some u → h'.get? b = some u) : HOk P w H h' := fun a o e =>
  (x a o e).stay (fun b u _ q => k b u q) (fun _ q => q) fun _ _ q => q
/-- a new object is laid and tracked -/
theorem HOk.laid (x : HOk P w H h) (k : ∀ b u, h.get? b = some u → h'.get? b = some u) (hp : h.objs.size ≤ a) (new : ObjOk P w (upd H a o) h' a o) : HOk P w (upd H a o) h' := fun b u e => by
  have hn := x.fresh hp
  by_cases hb : b = a
  · subst hb; rw [upd_same] at e; cases e; exact new
  · rw [upd_ne hb] at e
    exact (x b u e).stay (fun c v _ q => k c v q) (fun c q => by rw [upd_ne (ne_of_none q hn)]; exact q) fun c xs q => by rw [upd_ne (ne_of_none q hn)]; exact q
end

/-- what may be read as u: it is u, or a known u -/
noncomputable def Rd (H : Hp) (a : Addr) (u : HO) : Prop := H a = some u ∨ ∃ o, H a = some (.frz o u)
theorem Rd.of {H : Hp} {a : Addr} {u : HO} (h : H a = some u) : Rd H a u := .inl h
theorem Rd.ok {P : Program} {w : World} {H : Hp} {h : Heap} {a : Addr} {u : HO} (r : Rd H a u) (x : HOk P w H h) : ObjOk P w H h a u := by
  rcases r with r | ⟨o, r⟩
  · exact x a u r
  · obtain ⟨_, q⟩ := x a _ r
    exact q
/-- what may be written -/
noncomputable def Mut : Option HO → Prop
  | some (.lst _) => True
  | some (.dK _) => True
  | some (.dT _) => True
  | some (.set _ _) => True
  | some (.ins _ _ _) => True
  | some (.ext _) => True
  | _ => False
section
variable {P : Program} {w : World} {H : Hp} {h h' : Heap} {x e : Addr} {o' : HO}
/-- the object at e is changed: x itself, or the dict of the instance x -/
theorem HOk.write (ok : HOk P w H h) (mu : Mut (H x)) (he : e = x ∨ H e = some (.own x)) (k : ∀ b u, b ≠ e → h.get? b = some u → h'.get? b = some u) (heo : ∃ u, h'.get? e = some u)
    (new : ObjOk P w (upd H x o') h' x o') : HOk P w (upd H x o') h' := fun b u q => by
  have nown : ∀ c y, H c = some (.own y) → c ≠ x := fun c y r z => by subst z; rw [r] at mu; exact mu
  have ntup : ∀ c xs, H c = some (.tup xs) → c ≠ x := fun c xs r z => by subst z; rw [r] at mu; exact mu
  by_cases hb : b = x
  · subst hb; rw [upd_same] at q; cases q; exact new
  · rw [upd_ne hb] at q
    by_cases hbe : b = e
    · have q' : H b = some (.own x) := by
        rcases he with z | z
        · exact absurd (hbe.trans z) hb
        · rw [hbe]; exact z
      rw [q] at q'; cases q'
      obtain ⟨v, hv⟩ := heo
      exact ⟨v, by rw [hbe]; exact hv⟩
    · refine (ok b u q).stay (fun c v hc r => k c v ?_ r) (fun c r => by rw [upd_ne (nown c b r)]; exact r) fun c xs r => by rw [upd_ne (ntup c xs r)]; exact r
      rcases hc with rfl | hc
      · exact hbe
      · rintro rfl
        rcases he with z | z
        · exact nown c b hc z
        · rw [hc] at z; cases z; exact hb rfl
end

/-! ### kept unless tracked; of the frames at fs (the callers') the slots may change (an exception that passes writes there); of the records at ex (iterators) nothing is said -/
structure Un (fs ex : List Addr) (H H' : Hp) (h h' : Heap) : Prop where
  keep : ∀ b o, h.get? b = some o → H b = none → b ∉ fs → b ∉ ex → h'.get? b = some o
  slot : ∀ b o, h.get? b = some o → H b = none → b ∈ fs → b ∉ ex → ∃ sl, h'.get? b = some { o with slots := sl }
  free : ∀ b o, h.get? b = some o → H b = none → b ∉ ex → H' b = none
  there : ∀ b o, h.get? b = some o → b ∉ ex → ∃ o', h'.get? b = some o'
  tups : ∀ b xs, H b = some (.tup xs) → H' b = some (.tup xs)
  frzs : ∀ b o u, H b = some (.frz o u) → H' b = some (.frz o u)
  tbls : ∀ b ps, H b = some (.tbl ps) → ∃ more, H' b = some (.tbl (ps ++ more))
section
variable {fs fs' ex ex' : List Addr} {H H1 H2 : Hp} {h h1 h2 h' : Heap} {a x e : Addr} {o : HO}
theorem Un.any (u : Un fs ex H H1 h h1) {b : Addr} {ob : Obj} (q : h.get? b = some ob) (n : H b = none) (hx : b ∉ ex) : ∃ sl, h1.get? b = some { ob with slots := sl } := by
  by_cases hb : b ∈ fs
  · exact u.slot b ob q n hb hx
  · exact ⟨ob.slots, u.keep b ob q n hb hx⟩
theorem Un.trans (a : Un fs ex H H1 h h1) (b : Un fs ex H1 H2 h1 h2) : Un fs ex H H2 h h2 where
  keep := fun c ob q n hc hx => b.keep c ob (a.keep c ob q n hc hx) (a.free c ob q n hx) hc hx
  slot := fun c ob q n hc hx => by
    obtain ⟨sl, e1⟩ := a.slot c ob q n hc hx
    obtain ⟨sl', e2⟩ := b.slot c _ e1 (a.free c ob q n hx) hc hx
    exact ⟨sl', e2⟩
  free := fun c ob q n hx => by
    obtain ⟨o', e1⟩ := a.there c ob q hx
    exact b.free c o' e1 (a.free c ob q n hx) hx
  there := fun c ob q hx => by
    obtain ⟨o', e1⟩ := a.there c ob q hx
    exact b.there c o' e1 hx
  tups := fun c xs q => b.tups c xs (a.tups c xs q)
  frzs := fun c ob xs q => b.frzs c ob xs (a.frzs c ob xs q)
  tbls := fun c ps q => by
    obtain ⟨m1, e1⟩ := a.tbls c ps q
    obtain ⟨m2, e2⟩ := b.tbls c _ e1
    exact ⟨m1 ++ m2, by rw [e2, Array.append_assoc]⟩
theorem Un.kept (k : ∀ b u, h.get? b = some u → h'.get? b = some u) : Un fs ex H H h h' :=
  ⟨fun b ob q _ _ _ => k b ob q, fun b ob q _ _ _ => ⟨ob.slots, k b ob q⟩, fun _ _ _ n _ => n, fun b ob q _ => ⟨ob, k b ob q⟩, fun _ _ q => q, fun _ _ _ q => q, fun _ ps q => ⟨#[], by rw [q]; simp⟩⟩
theorem Un.refl : Un fs ex H H h h := Un.kept fun _ _ q => q
theorem Un.laid (k : ∀ b u, h.get? b = some u → h'.get? b = some u) (hp : h.objs.size ≤ a) (hn : H a = none) : Un fs ex H (upd H a o) h h' where
  keep := fun b u q _ _ _ => k b u q
  slot := fun b u q _ _ _ => ⟨u.slots, k b u q⟩
  free := fun b u q n _ => by rw [upd_ne (Nat.ne_of_lt (Nat.lt_of_lt_of_le (Heap.lt_size q) hp))]; exact n
  there := fun b u q _ => ⟨u, k b u q⟩
  tups := fun b xs q => by rw [upd_ne (ne_of_none q hn)]; exact q
  frzs := fun b u xs q => by rw [upd_ne (ne_of_none q hn)]; exact q
  tbls := fun b ps q => ⟨#[], by rw [upd_ne (ne_of_none q hn), q]; simp⟩
theorem Un.write (mu : Mut (H x)) (he : e = x ∨ H e = some (.own x)) (k : ∀ b u, b ≠ e → h.get? b = some u → h'.get? b = some u) (heo : ∃ u, h'.get? e = some u) : Un fs ex H (upd H x o) h h' := by
  have hx : ∀ b, H b = none → b ≠ x := fun b n z => by subst z; rw [n] at mu; exact mu
  have hb : ∀ b, H b = none → b ≠ e := fun b n z => by
    subst z
    rcases he with r | r
    · exact hx b n r
    · rw [n] at r; cases r
  have hm : ∀ b u, H b = some u → ¬ Mut (some u) → b ≠ x := fun b u q nm z => by subst z; rw [q] at mu; exact nm mu
  refine ⟨fun b u q n _ _ => k b u (hb b n) q, fun b u q n _ _ => ⟨u.slots, k b u (hb b n) q⟩, fun b u q n _ => by rw [upd_ne (hx b n)]; exact n, fun b u q _ => ?_,
    fun b xs q => by rw [upd_ne (hm b _ q fun z => z)]; exact q, fun b u xs q => by rw [upd_ne (hm b _ q fun z => z)]; exact q, fun b ps q => ⟨#[], by rw [upd_ne (hm b _ q fun z => z), q]; simp⟩⟩
  by_cases hbe : b = e
  · subst hbe; exact heo
  · exact ⟨u, k b u hbe q⟩
theorem Un.mono (u : Un fs ex H H1 h h1) (hs : ∀ b ∈ fs, b ∈ fs') (hx : ∀ b ∈ ex, b ∈ ex') : Un fs' ex' H H1 h h1 :=
  ⟨fun b ob q n hb he => u.keep b ob q n (fun z => hb (hs b z)) fun z => he (hx b z), fun _ _ q n _ he => u.any q n fun z => he (hx _ z), fun b ob q n he => u.free b ob q n fun z => he (hx b z), fun b ob q he => u.there b ob q fun z => he (hx b z), u.tups, u.frzs, u.tbls⟩
end

/-! ### the heap without what is tracked -/
noncomputable def trk (h : Heap) (H : Hp) : List Addr := (List.range h.objs.size).filter fun a => (H a).isSome
noncomputable def hidT (h : Heap) (H : Hp) : Heap := PySem.W.hideAll h (trk h H)
theorem hidT_size (h : Heap) (H : Hp) : (hidT h H).objs.size = h.objs.size := PySem.W.hideAll_size _ _
theorem hidT_get {h : Heap} {H : Hp} {b : Addr} {o : Obj} (e : h.get? b = some o) (n : H b = none) : (hidT h H).get? b = some o :=
  PySem.W.hideAll_get _ e fun hm => by
    have q : (H b).isSome = true := (List.mem_filter.mp hm).2
    rw [n] at q; simp at q
theorem of_hidT {h : Heap} {H : Hp} {b : Addr} {o : Obj} (e : (hidT h H).get? b = some o) : h.get? b = some o ∧ H b = none := by
  have e' : h.get? b = some o := PySem.W.of_hideAll (trk h H) e
  refine ⟨e', ?_⟩
  cases q : H b with
  | none => rfl
  | some x =>
    have hm : b ∈ trk h H := List.mem_filter.mpr ⟨List.mem_range.mpr (Heap.lt_size e'), by simp [q]⟩
    have z : (hidT h H).get? b = none := PySem.W.hideAll_none (trk h H) hm
    rw [z] at e; cases e

/-! ### OpenK's ledger, filled with every new object but one -/
noncomputable def allNews (g h : Heap) (L : Addr) : List (Addr × Obj) := (List.range h.objs.size).filterMap fun a => if a = L ∨ (g.get? a).isSome = true then none else (h.get? a).map fun o => (a, o)
noncomputable def rest (g h : Heap) (L d : Addr) : List (Addr × Obj) := (allNews g h L).filter fun p => decide (p.1 ≠ d)
end L2

namespace L2
open PySem PySem.Spec PyProof.Rows

/-- the module's facts, over the base: the heap at the law's entry without what is tracked there -/
structure Mod (K : PySem.W.Frag) (mg : Str → Option Value) (base : Heap) : Prop where
  kin : K.In base
  glob : base.Ns mainGlobals mg
  blt : ∃ mb, base.Ns builtinsNs mb ∧ ∀ x : Str, x ≠ "__name__" → mb x = bootBuiltins x
  nolimit : base.NoLimit

/-- the context: a def's body (or a comprehension's block) running. base: fixed through the whole law; s₀, H₀: the entry; outer: the frames whose slots others may change (a def's callers); stack: all frames that run;
   ex: iterators that were made ahead of the entry and are walked here (a comprehension's); fn: the names whose cells were made at the entry (a def: all; a comprehension's block: its own); calm: not within an except suite; pn: pins that every state bears; xe: what is wanted of an exception that leaves the code -/
structure Cx where
  prog : Program
  w : World
  K : PySem.W.Frag
  mg : Str → Option Value
  base : Heap
  A : Around
  N : List Str
  s₀ : Shared
  H₀ : Hp
  env : Env
  outer : List Env
  stack : List Env
  ex : List Addr
  fn : Str → Bool
  calm : Bool
  pn : List (Addr × Obj)
  xe : Value → Shared → Prop
/-- the callers' frames -/
noncomputable def frs (l : List Env) : List Addr := l.filterMap (·.frame)
noncomputable abbrev Cx.fs (X : Cx) : List Addr := frs X.outer

noncomputable def Vis (sc : Scope) (x : Str) : Prop := sc.names.lookup x = some .local ∨ sc.names.lookup x = some .cell ∨ sc.names.lookup x = some .free
noncomputable def Loc (sc : Scope) (x : Str) : Prop := sc.names.lookup x = some .local ∨ sc.names.lookup x = some .cell
noncomputable def Look (env : Env) (h : Heap) (m : Str → Option Value) (x : Str) (u : Value) : Prop :=
  (env.kindOf x = some .local ∧ m x = some u) ∨ ((env.kindOf x = some .cell ∨ env.kindOf x = some .free) ∧ ∃ c, env.cells.lookup x = some c ∧ h.IsCell c (some u))

structure Cx.Ok (X : Cx) : Prop where
  mod : Mod X.K X.mg X.base
  kind : X.env.scope.kind = .function
  glob : X.env.globals = mainGlobals
  blt : X.env.builtins = builtinsNs
  above : X.s₀.heap.objs.size ≤ X.env.locals
  inj : ∀ x y c, X.env.cells.lookup x = some c → X.env.cells.lookup y = some c → x = y
  has : ∀ x, (X.env.kindOf x = some .cell ∨ X.env.kindOf x = some .free) → ∃ c, X.env.cells.lookup x = some c
  cab : ∀ x c, X.fn x = true → X.env.cells.lookup x = some c → X.s₀.heap.objs.size ≤ c
  hd : X.calm = true → X.A.handled = none
  frames : X.A.frames = some X.stack
  stk : X.stack = X.outer ∨ (X.stack = X.env :: X.outer ∧ X.env.frame = some X.env.locals)
  exf : ∀ b ∈ X.ex, b ≠ X.env.locals ∧ ∀ x c, X.env.cells.lookup x = some c → c ≠ b
  bs : ∀ b o, X.base.get? b = some o → X.s₀.heap.get? b = some o ∧ X.H₀ b = none
  bsz : X.base.objs.size ≤ X.s₀.heap.objs.size
  noex : ∀ b o, X.base.get? b = some o → b ∉ X.ex
  exfs : ∀ b ∈ X.ex, b ∉ X.fs
  funs : X.s₀.heap.FunFrames X.base X.outer
  frf : ∀ b ∈ X.fs, X.H₀ b = none

structure Inv (X : Cx) (pins : List (Addr × Obj)) (σ : List (Option V)) (H : Hp) (s : Shared) : Prop where
  ok : X.Ok
  os : s.os = X.s₀.os
  bare : AllBare s.gens
  base : Un X.fs X.ex X.H₀ H X.s₀.heap s.heap
  loc : ∃ m, s.heap.Ns X.env.locals m ∧ ∀ (i : Nat) (x : Str) (v : V), X.N[i]? = some x → σ[i]? = some (some v) → Vis X.env.scope x → ∃ u, RelV v u ∧ Look X.env s.heap m x u
  cell : ∀ x c, X.env.cells.lookup x = some c → ∃ v, s.heap.IsCell c v
  free : H X.env.locals = none
  freeC : ∀ x c, X.env.cells.lookup x = some c → H c = none
  pin : ∀ p ∈ X.pn ++ pins, s.heap.get? p.1 = some p.2 ∧ H p.1 = none ∧ p.1 ≠ X.env.locals ∧ p.1 ∉ X.fs ∧ ∀ v, p.2.data ≠ .cell v
  hok : HOk X.prog X.w H s.heap
  len : σ.length = X.N.length

section
variable {X : Cx} {pins : List (Addr × Obj)} {σ : List (Option V)} {H H' : Hp} {s : Shared} {h' : Heap}

theorem Cx.Ok.nofr (ok : X.Ok) {b : Addr} {o : Obj} (e : X.base.get? b = some o) : b ∉ X.fs := fun hb => by
  have := (ok.funs.mem hb).1
  rw [e] at this; cases this
theorem Inv.bs (I : Inv X pins σ H s) : ∀ b o, X.base.get? b = some o → s.heap.get? b = some o ∧ H b = none := fun b o e =>
  ⟨I.base.keep b o (I.ok.bs b o e).1 (I.ok.bs b o e).2 (I.ok.nofr e) (I.ok.noex b o e), I.base.free b o (I.ok.bs b o e).1 (I.ok.bs b o e).2 (I.ok.noex b o e)⟩
theorem Inv.bk (I : Inv X pins σ H s) : ∀ b o, X.base.get? b = some o → s.heap.get? b = some o := fun b o e => (I.bs b o e).1
theorem Inv.mod (I : Inv X pins σ H s) : Mod X.K X.mg X.base := I.ok.mod
theorem Inv.kIn (I : Inv X pins σ H s) : X.K.In s.heap := I.ok.mod.kin.keeps I.bk
theorem Inv.nolimit (I : Inv X pins σ H s) : s.heap.NoLimit := I.ok.mod.nolimit.keeps I.bk
/-- the frame over the base: for OpenK's rules (K.In X.base is I.mod.kin) -/
theorem Inv.fr (I : Inv X pins σ H s) : ∃ m, Fr X.base X.env.locals s.heap m :=
  let ⟨m, hn, _⟩ := I.loc
  ⟨m, hn, I.bk, Nat.le_trans I.ok.bsz I.ok.above⟩
theorem Inv.lt (I : Inv X pins σ H s) : X.env.locals < s.heap.objs.size := let ⟨_, hn, _⟩ := I.loc; hn.lt
theorem Inv.sz (I : Inv X pins σ H s) : X.s₀.heap.objs.size ≤ s.heap.objs.size := Nat.le_trans I.ok.above (Nat.le_of_lt I.lt)
theorem Inv.nofs (I : Inv X pins σ H s) {a : Addr} (h : s.heap.objs.size ≤ a) : a ∉ X.fs := fun hb => by
  obtain ⟨_, o, ho, _⟩ := I.ok.funs.mem hb
  exact absurd (Nat.lt_of_lt_of_le (Heap.lt_size ho) (Nat.le_trans I.sz h)) (Nat.lt_irrefl _)
theorem Inv.cne (I : Inv X pins σ H s) : ∀ x c, X.env.cells.lookup x = some c → c ≠ X.env.locals := fun x c e z => by
  obtain ⟨v, o, ho, hd⟩ := I.cell x c e
  obtain ⟨m, ⟨o', es, ep, ho', hd', _⟩, _⟩ := I.loc
  rw [z, ho'] at ho; cases ho; rw [hd'] at hd; cases hd
theorem Inv.funs (I : Inv X pins σ H s) : s.heap.FunFrames X.base X.outer := by
  have all : ∀ (l : List Env), (∀ b ∈ frs l, b ∈ X.fs) → X.s₀.heap.FunFrames X.base l → s.heap.FunFrames X.base l := by
    intro l
    induction l with
    | nil => intro _ _; trivial
    | cons env r ih =>
      intro hs hl
      obtain ⟨hk, ⟨L, o, hf, hn, ho, hd⟩, hr⟩ := hl
      have hL : L ∈ X.fs := hs L (by unfold frs; rw [List.filterMap_cons, hf]; exact List.mem_cons_self)
      obtain ⟨sl, e⟩ := I.base.slot L o ho (I.ok.frf L hL) hL fun z => I.ok.exfs L z hL
      exact ⟨hk, ⟨L, _, hf, hn, e, hd⟩, ih (fun b hb => hs b (by unfold frs; rw [List.filterMap_cons, hf]; exact List.mem_cons_of_mem _ hb)) hr⟩
  exact all X.outer (fun _ hb => hb) I.ok.funs

/-- the frames that run, for a call -/
theorem Inv.stack (I : Inv X pins σ H s) : s.heap.FunFrames X.base X.stack := by
  rcases I.ok.stk with e | ⟨e, hf⟩
  · rw [e]; exact I.funs
  · rw [e]
    obtain ⟨m, hn, _⟩ := I.loc
    refine .cons (by rw [I.ok.kind]; decide) hf hn ?_ I.funs
    exact Heap.get?_none_of_le (Nat.le_trans I.ok.bsz I.ok.above)
theorem Inv.stkSub (I : Inv X pins σ H s) : ∀ b ∈ frs X.stack, b ∈ X.env.locals :: X.fs := fun b hb => by
  rcases I.ok.stk with e | ⟨e, hf⟩
  · rw [e] at hb; exact List.mem_cons_of_mem _ hb
  · rw [e] at hb
    unfold frs at hb
    rw [List.filterMap_cons, hf] at hb
    exact hb
theorem Inv.stkFree (I : Inv X pins σ H s) : ∀ b ∈ frs X.stack, H b = none := fun b hb => by
  rcases List.mem_cons.mp (I.stkSub b hb) with e | hb
  · rw [e]; exact I.free
  · obtain ⟨_, o, ho, _⟩ := I.ok.funs.mem hb
    exact I.base.free b o ho (I.ok.frf b hb) fun z => I.ok.exfs b z hb

/-- THE STEP: the untracked objects but the frame and the records at ch are kept (the callers' frames up to slots), the frame's map is kept, the new abstract heap is held -/
theorem Inv.step {g' : Array GenState} {t' : Nat} {d' : Drawn} {ch : List Addr} (I : Inv X pins σ H s)
    (hch : ∀ b ∈ ch, (b ∈ X.ex ∨ X.s₀.heap.objs.size ≤ b) ∧ b ≠ X.env.locals ∧ (∀ x c, X.env.cells.lookup x = some c → c ≠ b) ∧ ∀ p ∈ X.pn ++ pins, p.1 ≠ b)
    (keep : ∀ b o, b ≠ X.env.locals → b ∉ X.fs → b ∉ ch → s.heap.get? b = some o → H b = none → h'.get? b = some o)
    (slot : ∀ b o, b ≠ X.env.locals → b ∈ X.fs → b ∉ ch → s.heap.get? b = some o → H b = none → ∃ sl, h'.get? b = some { o with slots := sl }) (free : ∀ b o, b ∉ ch → s.heap.get? b = some o → H b = none → H' b = none)
    (there : ∀ b o, b ∉ ch → s.heap.get? b = some o → ∃ o', h'.get? b = some o')
    (tups : ∀ b xs, H b = some (.tup xs) → H' b = some (.tup xs)) (frzs : ∀ b o u, H b = some (.frz o u) → H' b = some (.frz o u)) (tbls : ∀ b ps, H b = some (.tbl ps) → ∃ more, H' b = some (.tbl (ps ++ more)))
    (ns : ∀ m, s.heap.Ns X.env.locals m → h'.Ns X.env.locals m) (hok : HOk X.prog X.w H' h') (hg : AllBare g') :
    Inv X pins σ H' { s with heap := h', gens := g', drawn := d', toks := t' } := by
  have neL : ∀ b o, X.s₀.heap.get? b = some o → b ≠ X.env.locals := fun b o e => Nat.ne_of_lt (Nat.lt_of_lt_of_le (Heap.lt_size e) I.ok.above)
  have neC : ∀ b o, X.s₀.heap.get? b = some o → b ∉ X.ex → b ∉ ch := fun b o e hx hb => by
    rcases (hch b hb).1 with z | z
    · exact hx z
    · exact absurd (Nat.lt_of_lt_of_le (Heap.lt_size e) z) (Nat.lt_irrefl _)
  have cellK : ∀ x c, X.env.cells.lookup x = some c → ∀ v, s.heap.IsCell c v → h'.IsCell c v := fun x c e v ⟨o, ho, hd⟩ => by
    have nch : c ∉ ch := fun z => (hch c z).2.2.1 x c e rfl
    by_cases hc : c ∈ X.fs
    · obtain ⟨sl, q⟩ := slot c o (I.cne x c e) hc nch ho (I.freeC x c e)
      exact ⟨_, q, hd⟩
    · exact ⟨o, keep c o (I.cne x c e) hc nch ho (I.freeC x c e), hd⟩
  refine ⟨I.ok, I.os, hg, ⟨fun b o e n hb hx => ?_, fun b o e n hb hx => ?_, fun b o e n hx => ?_, fun b o e hx => ?_, fun b xs e => tups b xs (I.base.tups b xs e), fun b o xs e => frzs b o xs (I.base.frzs b o xs e), fun b ps e => ?_⟩, ?_, fun x c e => ?_, ?_, fun x c e => ?_, fun p hp => ?_, hok, I.len⟩
  · exact keep b o (neL b o e) hb (neC b o e hx) (I.base.keep b o e n hb hx) (I.base.free b o e n hx)
  · obtain ⟨sl, e1⟩ := I.base.slot b o e n hb hx
    obtain ⟨sl', e2⟩ := slot b _ (neL b o e) hb (neC b o e hx) e1 (I.base.free b o e n hx)
    exact ⟨sl', e2⟩
  · obtain ⟨o', e1⟩ := I.base.there b o e hx
    exact free b o' (neC b o e hx) e1 (I.base.free b o e n hx)
  · obtain ⟨o', e1⟩ := I.base.there b o e hx
    exact there b o' (neC b o e hx) e1
  · obtain ⟨m1, e1⟩ := I.base.tbls b ps e
    obtain ⟨m2, e2⟩ := tbls b _ e1
    exact ⟨m1 ++ m2, by rw [e2, Array.append_assoc]⟩
  · obtain ⟨m, hn, hl⟩ := I.loc
    refine ⟨m, ns m hn, fun i x v e1 e2 e3 => ?_⟩
    obtain ⟨u, r, l⟩ := hl i x v e1 e2 e3
    refine ⟨u, r, ?_⟩
    rcases l with l | ⟨k, c, e, z⟩
    · exact .inl l
    · exact .inr ⟨k, c, e, cellK x c e _ z⟩
  · obtain ⟨v, z⟩ := I.cell x c e
    exact ⟨v, cellK x c e v z⟩
  · obtain ⟨m, ⟨o, _, _, ho, _⟩, _⟩ := I.loc
    exact free _ o (fun z => (hch _ z).2.1 rfl) ho I.free
  · obtain ⟨v, o, ho, hd⟩ := I.cell x c e
    exact free c o (fun z => (hch c z).2.2.1 x c e rfl) ho (I.freeC x c e)
  · obtain ⟨e, n, ne, nf, d⟩ := I.pin p hp
    have nch : p.1 ∉ ch := fun z => (hch p.1 z).2.2.2 p hp rfl
    exact ⟨keep p.1 p.2 ne nf nch e n, free p.1 p.2 nch e n, ne, nf, d⟩
/-- .. where the frame's own object is kept too -/
theorem Inv.un {t' : Nat} (I : Inv X pins σ H s) (u : Un X.fs [] H H' s.heap h') (hok : HOk X.prog X.w H' h') : Inv X pins σ H' { s with heap := h', toks := t' } := by
  obtain ⟨m, ⟨o, es, ep, ho, r⟩, _⟩ := id I.loc
  obtain ⟨sl, hL⟩ := u.any ho I.free (by simp)
  exact I.step (g' := s.gens) (d' := s.drawn) (ch := []) (fun _ z => nomatch z) (fun b o _ hb _ e n => u.keep b o e n hb (by simp)) (fun b o _ hb _ e n => u.slot b o e n hb (by simp)) (fun b o _ e n => u.free b o e n (by simp)) (fun b o _ e => u.there b o e (by simp)) u.tups u.frzs u.tbls (fun m' hm => by
    obtain ⟨o', es', ep', ho', r'⟩ := hm
    rw [ho] at ho'; cases ho'
    exact ⟨_, es', ep', hL, r'⟩) hok I.bare
/-- behind a call (or a comprehension's block): the slots of this frame may have changed too, the records at ch may have turned -/
theorem Inv.call {g' : Array GenState} {t' : Nat} {d' : Drawn} {ch : List Addr} (I : Inv X pins σ H s) (u : Un (frs X.stack) ch H H' s.heap h') (hok : HOk X.prog X.w H' h') (hg : AllBare g')
    (hch : ∀ b ∈ ch, (b ∈ X.ex ∨ X.s₀.heap.objs.size ≤ b) ∧ b ≠ X.env.locals ∧ (∀ x c, X.env.cells.lookup x = some c → c ≠ b) ∧ ∀ p ∈ X.pn ++ pins, p.1 ≠ b) :
    Inv X pins σ H' { s with heap := h', gens := g', drawn := d', toks := t' } := by
  obtain ⟨m, ⟨o, es, ep, ho, r⟩, _⟩ := id I.loc
  obtain ⟨sl, hL⟩ := u.any ho I.free fun z => (hch _ z).2.1 rfl
  exact I.step (ch := ch) hch (fun b o hL hb hc e n => u.keep b o e n (fun z => (List.mem_cons.mp (I.stkSub b z)).elim hL hb) hc) (fun b o _ _ hc e n => u.any e n hc) (fun b o hc e n => u.free b o e n hc) (fun b o hc e => u.there b o e hc) u.tups u.frzs u.tbls (fun m' hm => by
    obtain ⟨o', es', ep', ho', r'⟩ := hm
    rw [ho] at ho'; cases ho'
    exact ⟨_, es', ep', hL, r'⟩) hok hg
/-- an untracked record of ours (an iterator) has turned -/
theorem Inv.turned {t' : Nat} {it : Addr} (I : Inv X pins σ H s) (k : ∀ b o, b ≠ it → s.heap.get? b = some o → h'.get? b = some o) (hn : H it = none) (hL : it ≠ X.env.locals)
    (h1 : it ∈ X.ex ∨ X.s₀.heap.objs.size ≤ it) (h2 : ∀ x c, X.env.cells.lookup x = some c → c ≠ it) (h3 : ∀ p ∈ X.pn ++ pins, p.1 ≠ it) : Inv X pins σ H { s with heap := h', toks := t' } := by
  have nit : ∀ b u, H b = some u → b ≠ it := fun b u e z => by rw [z, hn] at e; cases e
  refine I.step (g' := s.gens) (d' := s.drawn) (ch := [it]) (fun b hb => ?_) (fun b o _ _ hc e _ => k b o (fun z => hc (by simp [z])) e) (fun b o _ _ hc e _ => ⟨o.slots, k b o (fun z => hc (by simp [z])) e⟩) (fun _ _ _ _ n => n)
    (fun b o hc e => ⟨o, k b o (fun z => hc (by simp [z])) e⟩) (fun _ _ e => e) (fun _ _ _ e => e) (fun b ps e => ⟨#[], by rw [e]; simp⟩) (fun m hm => ?_) (fun b u e => ?_) I.bare
  · have e : b = it := by simpa using hb
    subst e
    exact ⟨h1, hL, h2, h3⟩
  · obtain ⟨o, es, ep, ho, r⟩ := hm
    exact ⟨o, es, ep, k _ o (Ne.symm hL) ho, r⟩
  · refine (I.hok b u e).stay (fun c v hc q => k c v ?_ q) (fun _ q => q) fun _ _ q => q
    rcases hc with z | z
    · rw [z]; exact nit b u e
    · exact nit c _ z
theorem Inv.tok (I : Inv X pins σ H s) (t : Nat) : Inv X pins σ H { s with toks := t } := I.un (h' := s.heap) (t' := t) Un.refl I.hok
/-- all objects kept -/
theorem Inv.kept {t' : Nat} (I : Inv X pins σ H s) (k : ∀ b u, s.heap.get? b = some u → h'.get? b = some u) : Inv X pins σ H { s with heap := h', toks := t' } := I.un (Un.kept k) (I.hok.kept k)
/-- a new object laid and tracked -/
theorem Inv.laid {a : Addr} {o : HO} {t' : Nat} (I : Inv X pins σ H s) (k : ∀ b u, s.heap.get? b = some u → h'.get? b = some u) (hp : s.heap.objs.size ≤ a) (new : ObjOk X.prog X.w (upd H a o) h' a o) :
    Inv X pins σ (upd H a o) { s with heap := h', toks := t' } := I.un (Un.laid k hp (I.hok.fresh hp)) (I.hok.laid k hp new)
/-- an object written -/
theorem Inv.write {x e : Addr} {o : HO} {t' : Nat} (I : Inv X pins σ H s) (mu : Mut (H x)) (he : e = x ∨ H e = some (.own x)) (k : ∀ b u, b ≠ e → s.heap.get? b = some u → h'.get? b = some u) (heo : ∃ u, h'.get? e = some u)
    (new : ObjOk X.prog X.w (upd H x o) h' x o) : Inv X pins σ (upd H x o) { s with heap := h', toks := t' } := I.un (Un.write mu he k heo) (I.hok.write mu he k heo new)
theorem Inv.pins_of {pins' : List (Addr × Obj)} (I : Inv X pins σ H s) (h : ∀ p ∈ pins', s.heap.get? p.1 = some p.2 ∧ H p.1 = none ∧ p.1 ≠ X.env.locals ∧ p.1 ∉ X.fs ∧ ∀ v, p.2.data ≠ .cell v) : Inv X pins' σ H s :=
  ⟨I.ok, I.os, I.bare, I.base, I.loc, I.cell, I.free, I.freeC, fun p hp => (List.mem_append.mp hp).elim (fun z => I.pin p (List.mem_append_left _ z)) (h p), I.hok, I.len⟩

theorem nodup_ix {N : List Str} (hN : N.Nodup) {i j : Nat} {x : Str} (a : N[i]? = some x) (b : N[j]? = some x) : i = j := by
  obtain ⟨h1, e1⟩ := List.getElem?_eq_some_iff.mp a
  obtain ⟨h2, e2⟩ := List.getElem?_eq_some_iff.mp b
  exact (List.getElem_inj hN).mp (e1.trans e2.symm)

/-- a name is stored; what changed -/
theorem store_ok2 {M : Model} {A : Around} {E : Value → Shared → Prop} {i : Nat} {x : Str} {v : V} {u : Value} {Q : Unit → Shared → Prop} (I : Inv X pins σ H s) (hN : X.N.Nodup) (hi : X.N[i]? = some x) (hx : Loc X.env.scope x) (r : RelV v u)
    (h : ∀ s', Inv X pins (σ.set i (some v)) H s' → (∃ a, Heap.SameBut a s.heap s'.heap ∧ (a = X.env.locals ∨ X.env.cells.lookup x = some a)) → Q () s') (hf : X.fn x = true ∨ X.env.scope.names.lookup x = some .local := by first | exact .inl rfl | exact .inr rfl | assumption) : wpAny M A (storeName X.env x u) Q E s := by
  obtain ⟨m, hn, hl⟩ := id I.loc
  have hcls : (X.env.scope.kind == .class || (X.env.scope.kind == .module && X.env.locals != X.env.globals)) = false := by rw [I.ok.kind]; rfl
  have hiσ : i < σ.length := by rw [I.len]; exact (List.getElem?_eq_some_iff.mp hi).1
  have cne := I.cne
  have tracked : ∀ {a : Addr} {h' : Heap}, (∃ o, s.heap.get? a = some o ∧ H a = none) → Heap.SameBut a s.heap h' → HOk X.prog X.w H h' := fun {a h'} ha hs b ob e => by
    obtain ⟨_, _, hfree⟩ := ha
    refine (I.hok b ob e).stay (fun c w' hc q => (hs.2 c ?_).trans q) (fun _ q => q) fun _ _ q => q
    rintro rfl
    rcases hc with rfl | hc
    · rw [hfree] at e; cases e
    · rw [hfree] at hc; cases hc
  rcases hx with hk | hk
  · refine wpAny_storeName_local hk hn (fun h' hn' hs => ?_) hcls
    obtain ⟨oL, _, _, hoL, _⟩ := id hn
    refine h _ ⟨I.ok, I.os, I.bare, ⟨fun b o e n hb hx => ?_, fun b o e n hb hx => ?_, I.base.free, fun b o e hx => ?_, I.base.tups, I.base.frzs, I.base.tbls⟩, ⟨_, hn', fun j y v' e1 e2 e3 => ?_⟩, fun y c e => ?_, I.free, I.freeC, fun p hp => ?_, tracked ⟨oL, hoL, I.free⟩ hs, by simpa using I.len⟩ ⟨_, hs, .inl rfl⟩
    · exact (hs.2 b (Nat.ne_of_lt (Nat.lt_of_lt_of_le (Heap.lt_size e) I.ok.above))).trans (I.base.keep b o e n hb hx)
    · obtain ⟨sl, e1⟩ := I.base.slot b o e n hb hx
      exact ⟨sl, (hs.2 b (Nat.ne_of_lt (Nat.lt_of_lt_of_le (Heap.lt_size e) I.ok.above))).trans e1⟩
    · obtain ⟨o', e1⟩ := I.base.there b o e hx
      exact ⟨o', (hs.2 b (Nat.ne_of_lt (Nat.lt_of_lt_of_le (Heap.lt_size e) I.ok.above))).trans e1⟩
    · by_cases hj : j = i
      · subst hj
        rw [hi] at e1; cases e1
        rw [List.getElem?_set_self hiσ] at e2
        cases e2
        exact ⟨u, r, .inl ⟨hk, by simp⟩⟩
      · rw [List.getElem?_set_ne (Ne.symm hj)] at e2
        obtain ⟨u', r', q⟩ := hl j y v' e1 e2 e3
        refine ⟨u', r', ?_⟩
        rcases q with ⟨k, e⟩ | ⟨k, c, e, z⟩
        · refine .inl ⟨k, ?_⟩
          have : y ≠ x := fun e => hj (nodup_ix hN e1 (e ▸ hi))
          simp [this, e]
        · exact .inr ⟨k, c, e, z.sameBut hs (cne y c e)⟩
    · obtain ⟨w', z⟩ := I.cell y c e
      exact ⟨w', z.sameBut hs (cne y c e)⟩
    · obtain ⟨e, n, ne, nf, d⟩ := I.pin p hp
      exact ⟨(hs.2 p.1 ne).trans e, n, ne, nf, d⟩
  · have hfn : X.fn x = true := by
      rcases hf with z | z
      · exact z
      · rw [z] at hk; cases hk
    obtain ⟨c, hc⟩ := I.ok.has x (.inl hk)
    obtain ⟨w', z⟩ := I.cell x c hc
    refine wpAny_storeName_cell I.ok.kind hk hc z (fun h' hc' hs => ?_)
    obtain ⟨oc, hoc, hocd⟩ := id z
    refine h { s with heap := h' } ⟨I.ok, I.os, I.bare, ⟨fun b o e n hb hx => ?_, fun b o e n hb hx => ?_, I.base.free, fun b o e hx => ?_, I.base.tups, I.base.frzs, I.base.tbls⟩, ⟨m, hn.sameBut hs (Ne.symm (cne x c hc)), fun j y v' e1 e2 e3 => ?_⟩, fun y c' e => ?_, I.free, I.freeC, fun p hp => ?_, tracked ⟨oc, hoc, I.freeC x c hc⟩ hs, by simpa using I.len⟩ ⟨c, hs, .inr hc⟩
    · exact (hs.2 b (Nat.ne_of_lt (Nat.lt_of_lt_of_le (Heap.lt_size e) (I.ok.cab x c hfn hc)))).trans (I.base.keep b o e n hb hx)
    · obtain ⟨sl, e1⟩ := I.base.slot b o e n hb hx
      exact ⟨sl, (hs.2 b (Nat.ne_of_lt (Nat.lt_of_lt_of_le (Heap.lt_size e) (I.ok.cab x c hfn hc)))).trans e1⟩
    · obtain ⟨o', e1⟩ := I.base.there b o e hx
      exact ⟨o', (hs.2 b (Nat.ne_of_lt (Nat.lt_of_lt_of_le (Heap.lt_size e) (I.ok.cab x c hfn hc)))).trans e1⟩
    · by_cases hj : j = i
      · subst hj
        rw [hi] at e1; cases e1
        rw [List.getElem?_set_self hiσ] at e2
        cases e2
        exact ⟨u, r, .inr ⟨.inl hk, c, hc, hc'⟩⟩
      · rw [List.getElem?_set_ne (Ne.symm hj)] at e2
        obtain ⟨u', r', q⟩ := hl j y v' e1 e2 e3
        refine ⟨u', r', ?_⟩
        rcases q with q | ⟨k, c', e, z'⟩
        · exact .inl q
        · refine .inr ⟨k, c', e, z'.sameBut hs ?_⟩
          rintro rfl
          exact hj (nodup_ix hN e1 (I.ok.inj _ _ _ e hc ▸ hi))
    · by_cases hcc : c' = c
      · subst hcc; exact ⟨_, hc'⟩
      · obtain ⟨w2, z2⟩ := I.cell y c' e
        exact ⟨w2, z2.sameBut hs hcc⟩
    · obtain ⟨e, n, ne, nf, d⟩ := I.pin p hp
      refine ⟨(hs.2 p.1 ?_).trans e, n, ne, nf, d⟩
      intro q
      rw [q, hoc] at e
      have q' : oc = p.2 := Option.some.inj e
      exact d w' (by rw [← q']; exact hocd)
theorem store_ok {M : Model} {A : Around} {E : Value → Shared → Prop} {i : Nat} {x : Str} {v : V} {u : Value} {Q : Unit → Shared → Prop} (I : Inv X pins σ H s) (hN : X.N.Nodup) (hi : X.N[i]? = some x) (hx : Loc X.env.scope x) (r : RelV v u)
    (h : ∀ s', Inv X pins (σ.set i (some v)) H s' → Q () s') (hf : X.fn x = true ∨ X.env.scope.names.lookup x = some .local := by first | exact .inl rfl | exact .inr rfl | assumption) : wpAny M A (storeName X.env x u) Q E s :=
  store_ok2 I hN hi hx r (fun s' I' _ => h s' I') hf
/-- behind a call or a block, the state as it is -/
theorem Inv.call' {s' : Shared} {ch : List Addr} (I : Inv X pins σ H s) (ho : s'.os = s.os) (u : Un (frs X.stack) ch H H' s.heap s'.heap) (hok : HOk X.prog X.w H' s'.heap) (hg : AllBare s'.gens)
    (hch : ∀ b ∈ ch, (b ∈ X.ex ∨ X.s₀.heap.objs.size ≤ b) ∧ b ≠ X.env.locals ∧ (∀ x c, X.env.cells.lookup x = some c → c ≠ b) ∧ ∀ p ∈ X.pn ++ pins, p.1 ≠ b) : Inv X pins σ H' s' := by
  obtain ⟨h', g', d', t', o'⟩ := s'
  have e : o' = s.os := ho
  subst e
  exact I.call (g' := g') (t' := t') (d' := d') u hok hg hch
end

/-! ### the judgements -/
/-- an exception: its class, its own dict's address (where it has one), the abstract heap behind it -/
noncomputable abbrev XK := Value → Option Addr → Hp → Prop
noncomputable abbrev St := List (Option V)
noncomputable abbrev VK := V → Hp → Prop
/-- an expression's reading; a test's; an argument list's -/
noncomputable abbrev TE := St → Hp → VK → Prop
noncomputable abbrev TT := St → Hp → (Bool → Hp → Prop) → Prop
noncomputable abbrev TA := St → Hp → (List V → Hp → Prop) → Prop
/-- what is wanted behind a statement -/
structure Ends where
  nx : St → Hp → Prop
  rt : VK
  bk : St → Hp → Prop := fun _ _ => False
  ct : St → Hp → Prop := fun _ _ => False
noncomputable abbrev TS := Ends → St → Hp → Prop

noncomputable def EP (X : Cx) (pins : List (Addr × Obj)) (σ : St) (Q : VK) (u : Value) (s' : Shared) : Prop := ∃ v H', Inv X pins σ H' s' ∧ RelV v u ∧ Q v H'
noncomputable def TP (X : Cx) (pins : List (Addr × Obj)) (σ : St) (Q : Bool → Hp → Prop) (b : Bool) (s' : Shared) : Prop := ∃ H', Inv X pins σ H' s' ∧ Q b H'
noncomputable def AP (X : Cx) (pins : List (Addr × Obj)) (σ : St) (Q : List V → Hp → Prop) (us : List Value) (s' : Shared) : Prop := ∃ vs H', Inv X pins σ H' s' ∧ Vals vs us ∧ Q vs H'
noncomputable def SP (X : Cx) (pins : List (Addr × Obj)) (D : Ends) (f : Flow) (s' : Shared) : Prop :=
  match f with
  | .next => ∃ σ' H', Inv X pins σ' H' s' ∧ D.nx σ' H'
  | .brk => ∃ σ' H', Inv X pins σ' H' s' ∧ D.bk σ' H'
  | .cont => ∃ σ' H', Inv X pins σ' H' s' ∧ D.ct σ' H'
  | .ret u => ∃ v σ' H', Inv X pins σ' H' s' ∧ RelV v u ∧ D.rt v H'

noncomputable def PE (X : Cx) (e : Expr) (t : TE) : Prop :=
  ∀ (pins : List (Addr × Obj)) (s : Shared) (σ : St) (H : Hp) (Q : VK), Inv X pins σ H s → t σ H Q → wpAny (model X.prog X.w) X.A (eval e X.env) (EP X pins σ Q) X.xe s
noncomputable def PT (X : Cx) (e : Expr) (t : TT) : Prop :=
  ∀ (pins : List (Addr × Obj)) (s : Shared) (σ : St) (H : Hp) (Q : Bool → Hp → Prop), Inv X pins σ H s → t σ H Q → wpAny (model X.prog X.w) X.A (isTrue e X.env (eval e X.env)) (TP X pins σ Q) X.xe s
/-- a test whatever its 'whole' is (and, or) -/
noncomputable def PW (X : Cx) (e : Expr) (t : TT) : Prop :=
  ∀ (whole : Sem Value) (pins : List (Addr × Obj)) (s : Shared) (σ : St) (H : Hp) (Q : Bool → Hp → Prop), Inv X pins σ H s → t σ H Q → wpAny (model X.prog X.w) X.A (isTrue e X.env whole) (TP X pins σ Q) X.xe s
theorem PW.pt {X : Cx} {e : Expr} {t : TT} (h : PW X e t) : PT X e t := h _
/-- an argument list (no star), from the left -/
noncomputable def PA (X : Cx) (es : List Expr) (t : TA) : Prop :=
  ∀ (pos : Pos) (pins : List (Addr × Obj)) (s : Shared) (σ : St) (H : Hp) (Q : List V → Hp → Prop), Inv X pins σ H s → t σ H Q → wpAny (model X.prog X.w) X.A (spliced (backTo pos (starEach es X.env))) (AP X pins σ Q) X.xe s
noncomputable def PS (X : Cx) (st : Stmt) (t : TS) : Prop :=
  ∀ (pins : List (Addr × Obj)) (s : Shared) (σ : St) (H : Hp) (D : Ends), Inv X pins σ H s → t D σ H → wpAny (model X.prog X.w) X.A (exec st X.env) (SP X pins D) X.xe s
noncomputable def PSs (X : Cx) (st : List Stmt) (t : TS) : Prop :=
  ∀ (pins : List (Addr × Obj)) (s : Shared) (σ : St) (H : Hp) (D : Ends), Inv X pins σ H s → t D σ H → wpAny (model X.prog X.w) X.A (execs st X.env) (SP X pins D) X.xe s
/-- weaken the end -/
theorem thn {α : Type} {t : Sem α} {Q Q' : α → Shared → Prop} {M : Model} {A : Around} {E : Value → Shared → Prop} {s : Shared} (h : wpAny M A t Q E s) (hQ : ∀ a s, Q a s → Q' a s) : wpAny M A t Q' E s := wpAny_mono h hQ fun _ _ x => x
end L2

namespace L2
open PySem PySem.Spec PyProof.Rows
section
variable {X : Cx}

/-! ### names and constants -/
noncomputable def tVar (i : Nat) : TE := fun σ H Q => ∃ v, σ[i]? = some (some v) ∧ Q v H
noncomputable def tC (v : V) : TE := fun _ H Q => Q v H
theorem pe_var {i : Nat} {x : Str} {pos : Pos} (hN : X.N[i]? = some x) (hv : Vis X.env.scope x) (hd : (x == ("__debug__" : Str)) = false := by decide) (hcd : (x == ("__classdict__" : Str)) = false := by decide) : PE X (.Name x pos) (tVar i) := by
  intro pins s σ H Q I h
  obtain ⟨v, e, h⟩ := h
  obtain ⟨m, hn, hl⟩ := I.loc
  obtain ⟨u, r, l⟩ := hl i x v hN e hv
  have fin : EP X pins σ Q u s := ⟨v, H, I, r, h⟩
  rcases l with ⟨hk, hm⟩ | ⟨hk, c, hc, hcell⟩
  · exact wpAny_Name (wpAny_loadName_local I.ok.kind hk hn hm fin) hd
  · rcases hk with hk | hk
    · exact wpAny_Name (wpAny_loadName_cell I.ok.kind hk hc hcell fin) hd
    · exact wpAny_Name (wpAny_loadName_free I.ok.kind hk hc hcell fin hcd) hd
theorem pe_int {i j pos} : PE X (.Constant (.int i) j pos) (tC (.int i)) := fun _ _ _ H _ I h => wpAny_Constant_int ⟨.int i, H, I.tok _, ⟨_, rfl⟩, h⟩
theorem pe_bl {b j pos} : PE X (.Constant (.bool b) j pos) (tC (.bl b)) := fun _ _ _ H _ I h => Constant_bool ⟨.bl b, H, I, rfl, h⟩
theorem pe_str {x j pos} : PE X (.Constant (.str x) j pos) (tC (.str x)) := fun _ _ _ H _ I h => Calls.Constant_str ⟨.str x, H, I.tok _, ⟨_, rfl⟩, h⟩

/-- a global name of the def -/
noncomputable def Gl (X : Cx) (x : Str) : Prop := X.env.kindOf x = some .globalImplicit
theorem ld_glob {E : Value → Shared → Prop} {pins : List (Addr × Obj)} {s : Shared} {σ : St} {H : Hp} {x : Str} {u : Value} {pos : Pos} {Q : Value → Shared → Prop} (I : Inv X pins σ H s) (hg : Gl X x) (hm : X.mg x = some u) (h : Q u s)
    (hd : (x == ("__debug__" : Str)) = false := by decide) : wpAny (model X.prog X.w) X.A (eval (.Name x pos) X.env) Q E s :=
  Calls.Name_function_global I.ok.kind hg (Calls.loadGlobal_global (by rw [I.ok.glob]; exact I.mod.glob.keeps I.bk) hm h) hd
theorem ld_blt {E : Value → Shared → Prop} {pins : List (Addr × Obj)} {s : Shared} {σ : St} {H : Hp} {x : Str} {u : Value} {pos : Pos} {Q : Value → Shared → Prop} (I : Inv X pins σ H s) (hg : Gl X x) (hm : X.mg x = none) (hv : bootBuiltins x = some u) (h : Q u s)
    (hn : x ≠ "__name__" := by decide) (hd : (x == ("__debug__" : Str)) = false := by decide) : wpAny (model X.prog X.w) X.A (eval (.Name x pos) X.env) Q E s := by
  obtain ⟨mb, h1, h2⟩ := I.mod.blt
  exact Calls.Name_function_global I.ok.kind hg (Calls.loadGlobal_builtin (by rw [I.ok.glob]; exact I.mod.glob.keeps I.bk) hm (by rw [I.ok.blt]; exact h1.keeps I.bk) ((h2 x hn).trans hv) h) hd
/-! ### arithmetic -/
/-- two ints -/
noncomputable def t2I (ta tb : TE) (k : Int → Int → Hp → Prop) : St → Hp → Prop := fun σ H => ta σ H fun x H1 => tb σ H1 fun y H2 => ∃ i j, x = .int i ∧ y = .int j ∧ k i j H2
noncomputable def tAdd (ta tb : TE) : TE := fun σ H Q => t2I ta tb (fun i j H2 => Q (.int (i + j)) H2) σ H
noncomputable def tSub (ta tb : TE) : TE := fun σ H Q => t2I ta tb (fun i j H2 => Q (.int (i - j)) H2) σ H
/-- the left factor below 2^64 -/
noncomputable def tMul (ta tb : TE) : TE := fun σ H Q => t2I ta tb (fun i j H2 => (-(2 ^ 64) < i ∧ i < 2 ^ 64) ∧ Q (.int (i * j)) H2) σ H
variable {a b : Expr} {ta tb : TE} {pos : Pos}
/-! ### comparisons -/
noncomputable def PC (X : Cx) (op : CmpOp) (a b : Expr) (t : TE) : Prop :=
  ∀ (pins : List (Addr × Obj)) (s : Shared) (σ : St) (H : Hp) (Q : VK), Inv X pins σ H s → t σ H Q →
    wpAny (model X.prog X.w) X.A (eval a X.env) (fun v s₁ => wpAny (model X.prog X.w) X.A (eval b X.env) (fun u s₂ => wpAny (model X.prog X.w) X.A (compareOp op v u) (EP X pins σ Q) X.xe s₂) X.xe s₁) X.xe s
noncomputable def tCmp (p : Int → Int → Bool) (ta tb : TE) : TE := fun σ H Q => t2I ta tb (fun i j H2 => Q (.bl (p i j)) H2) σ H
noncomputable abbrev tLt : TE → TE → TE := tCmp fun i j => decide (i < j)
noncomputable abbrev tLe : TE → TE → TE := tCmp fun i j => decide (i ≤ j)
noncomputable abbrev tGt : TE → TE → TE := tCmp fun i j => decide (j < i)
noncomputable abbrev tGe : TE → TE → TE := tCmp fun i j => decide (j ≤ i)
noncomputable abbrev tEqI : TE → TE → TE := tCmp fun i j => decide (i = j)
noncomputable abbrev tNeI : TE → TE → TE := tCmp fun i j => !decide (i = j)
/-- is None -/
noncomputable def tIsN (ta : TE) : TE := fun σ H Q => ta σ H fun x H1 => Q (.bl (decide (x = .non))) H1
noncomputable def tNotN (ta : TE) : TE := fun σ H Q => ta σ H fun x H1 => Q (.bl (!decide (x = .non))) H1
/-- a comparison as a value, as a test -/
noncomputable def tB (t : TE) : TT := fun σ H Q => t σ H fun x H1 => ∃ c, x = .bl c ∧ Q c H1
/-! ### and, or, not -/
variable {tA tB' : TT} {rest : List Expr}
noncomputable def tAnd (t u : TT) : TT := fun σ H Q => t σ H fun c H1 => if c = true then u σ H1 Q else Q false H1
noncomputable def tOr (t u : TT) : TT := fun σ H Q => t σ H fun c H1 => if c = true then Q true H1 else u σ H1 Q
noncomputable def tNot (t : TT) : TT := fun σ H Q => t σ H fun c H1 => Q (!c) H1
theorem pw_or1 (ha : PT X a tA) : PW X (.BoolOp .Or [a] pos) tA := by
  intro wh pins s σ H Q I h
  refine isTrue_or (thn (ha pins s σ H Q I h) fun c s1 e => ?_)
  cases c with
  | false => exact isTrue_or_nil e
  | true => exact e
theorem pw_or (ha : PT X a tA) (hb : PW X (.BoolOp .Or (b :: rest) pos) tB') : PW X (.BoolOp .Or (a :: b :: rest) pos) (tOr tA tB') := by
  intro wh pins s σ H Q I h
  refine isTrue_or (thn (ha pins s σ H _ I h) fun c s1 ⟨H1, I1, q1⟩ => ?_)
  cases c with
  | true => exact ⟨H1, I1, q1⟩
  | false => exact hb wh pins s1 σ H1 Q I1 q1
/-- .. as values (bools) -/
noncomputable def tAndV (ta tb : TE) : TE := fun σ H Q => ta σ H fun x H1 => ∃ c, x = .bl c ∧ if c = true then tb σ H1 Q else Q (.bl false) H1
noncomputable def tOrV (ta tb : TE) : TE := fun σ H Q => ta σ H fun x H1 => ∃ c, x = .bl c ∧ if c = true then Q (.bl true) H1 else tb σ H1 Q
noncomputable def tNotV (ta : TE) : TE := fun σ H Q => ta σ H fun x H1 => ∃ c, x = .bl c ∧ Q (.bl (!c)) H1
theorem pe_one {op} {t : TE} (h : PE X a t) : PE X (.BoolOp op [a] pos) t := fun pins s σ H Q I hw => BoolOp_one (h pins s σ H Q I hw)
theorem pe_and (ha : PE X a ta) (hb : PE X (.BoolOp .And (b :: rest) pos) tb) : PE X (.BoolOp .And (a :: b :: rest) pos) (tAndV ta tb) := by
  intro pins s σ H Q I h
  refine BoolOp_and (thn (ha pins s σ H _ I h) fun v s1 ⟨x, H1, I1, r1, q1⟩ => ?_)
  obtain ⟨c, rfl, q1⟩ := q1
  cases r1
  refine wpAny_truthy_bool ?_
  cases c with
  | true => exact hb pins s1 σ H1 Q I1 q1
  | false => exact ⟨.bl false, H1, I1, rfl, q1⟩
/-- a if t else b -/
noncomputable def tIf (t : TT) (ta tb : TE) : TE := fun σ H Q => t σ H fun c H1 => if c = true then ta σ H1 Q else tb σ H1 Q
end
end L2

namespace L2
open PySem PySem.Spec PyProof.Rows

/-! ### a list, a tuple that is read: tracked, frozen, or an object of the module -/
noncomputable def SqL (K : PySem.W.Frag) (H : Hp) (a : Addr) (xs : List V) : Prop :=
  Rd H a (.lst xs) ∨
    ∃ (o : Obj) (its : Array Value) (n : Nat), K.lookup a = some o ∧ o.cls = .type "list" ∧ o.dict = none ∧ o.data = .seq its n ∧ its.size ≤ sizeLine ∧ Vals xs its.toList
noncomputable def SqT (K : PySem.W.Frag) (H : Hp) (a : Addr) (xs : List V) : Prop :=
  Rd H a (.tup xs) ∨
    ∃ (o : Obj) (its : Array Value) (n : Nat), K.lookup a = some o ∧ o.cls = .type "tuple" ∧ o.data = .seq its n ∧ its.size ≤ sizeLine ∧ Vals xs its.toList
noncomputable def absV : Value → Option V
  | .none => some .non
  | .bool b => some (.bl b)
  | .int i _ => some (.int i)
  | .str x _ => some (.str x)
  | .bytes b _ => some (.byt b)
  | .float b _ => some (.flt b)
  | .ref a => some (.ref a)
  | .type n => some (.ty n)
  | _ => none
theorem RelV.abs {x : V} {u : Value} (r : RelV x u) : absV u = some x := by
  cases x with
  | non => cases r; rfl
  | bl _ => cases r; rfl
  | int _ => obtain ⟨t, rfl⟩ := r; rfl
  | str _ => obtain ⟨t, rfl⟩ := r; rfl
  | byt _ => obtain ⟨t, rfl⟩ := r; rfl
  | flt _ => obtain ⟨t, rfl⟩ := r; rfl
  | ref _ => cases r; rfl
  | ty _ => cases r; rfl
theorem RelV.inj {x y : V} {u : Value} (r : RelV x u) (q : RelV y u) : x = y := Option.some.inj (r.abs.symm.trans q.abs)
theorem Vals.inj : ∀ {xs ys : List V} {us : List Value}, Vals xs us → Vals ys us → xs = ys
  | _, _, _, .nil, .nil => rfl
  | _, _, _, .cons r t, .cons r' t' => by rw [r.inj r', Vals.inj t t']
section
variable {X : Cx} {pins : List (Addr × Obj)} {σ : St} {H : Hp} {s : Shared} {a : Addr} {xs ys : List V}
theorem SqL.of {K : PySem.W.Frag} (h : H a = some (.lst xs)) : SqL K H a xs := .inl (.inl h)
theorem SqT.of {K : PySem.W.Frag} (h : H a = some (.tup xs)) : SqT K H a xs := .inl (.inl h)
theorem Inv.list (I : Inv X pins σ H s) (h : SqL X.K H a xs) : ∃ its : List Value, Vals xs its ∧ PlainL s.heap a its.toArray ∧ xs.length ≤ sizeLine := by
  rcases h with h | ⟨o, its, n, hk, hc, hd, hs, hz, r⟩
  · obtain ⟨z, its, n, r, e⟩ := h.ok I.hok
    exact ⟨its, r, ⟨_, n, e, rfl, rfl, rfl⟩, z⟩
  · refine ⟨its.toList, r, ⟨o, n, I.kIn a o hk, hc, hd, by simpa using hs⟩, ?_⟩
    have e := r.length
    simp only [Array.length_toList] at e
    omega
theorem Inv.tuple (I : Inv X pins σ H s) (h : SqT X.K H a xs) : ∃ its : List Value, Vals xs its ∧ IsTup s.heap a its.toArray ∧ xs.length ≤ sizeLine := by
  rcases h with h | ⟨o, its, n, hk, hc, hs, hz, r⟩
  · obtain ⟨z, its, r, p⟩ := h.ok I.hok
    exact ⟨its, r, p, z⟩
  · refine ⟨its.toList, r, ⟨o, I.kIn a o hk, hc, n, by simpa using hs⟩, ?_⟩
    have e := r.length
    simp only [Array.length_toList] at e
    omega
theorem Inv.list_inj (I : Inv X pins σ H s) (h : SqL X.K H a xs) (h' : SqL X.K H a ys) : xs = ys := by
  obtain ⟨its, r, ⟨o, n, e, _, _, d⟩, _⟩ := I.list h
  obtain ⟨its', r', ⟨o', n', e', _, _, d'⟩, _⟩ := I.list h'
  rw [e] at e'; cases e'
  rw [d] at d'
  injection d' with d1 _
  have : its = its' := by simpa using congrArg Array.toList d1
  subst this
  exact r.inj r'
theorem Inv.tuple_inj (I : Inv X pins σ H s) (h : SqT X.K H a xs) (h' : SqT X.K H a ys) : xs = ys := by
  obtain ⟨its, r, ⟨o, e, _, n, d⟩, _⟩ := I.tuple h
  obtain ⟨its', r', ⟨o', e', _, n', d'⟩, _⟩ := I.tuple h'
  rw [e] at e'; cases e'
  rw [d] at d'
  injection d' with d1 _
  have : its = its' := by simpa using congrArg Array.toList d1
  subst this
  exact r.inj r'
end

/-! ### another wish about exceptions -/
noncomputable abbrev Cx.wish (X : Cx) (E : Value → Shared → Prop) : Cx := { X with xe := E }
/-- no exception leaves -/
noncomputable abbrev Cx.nox (X : Cx) : Cx := X.wish fun _ _ => False
theorem Cx.Ok.wish {X : Cx} (ok : X.Ok) (E : Value → Shared → Prop) : (X.wish E).Ok :=
  ⟨ok.mod, ok.kind, ok.glob, ok.blt, ok.above, ok.inj, ok.has, ok.cab, ok.hd, ok.frames, ok.stk, ok.exf, ok.bs, ok.bsz, ok.noex, ok.exfs, ok.funs, ok.frf⟩
theorem Cx.Ok.unwish {X : Cx} {E : Value → Shared → Prop} (ok : (X.wish E).Ok) : X.Ok :=
  ⟨ok.mod, ok.kind, ok.glob, ok.blt, ok.above, ok.inj, ok.has, ok.cab, ok.hd, ok.frames, ok.stk, ok.exf, ok.bs, ok.bsz, ok.noex, ok.exfs, ok.funs, ok.frf⟩
section
variable {X : Cx} {pins : List (Addr × Obj)} {σ : St} {H : Hp} {s : Shared} {E : Value → Shared → Prop}
theorem Inv.wish (I : Inv X pins σ H s) (E : Value → Shared → Prop) : Inv (X.wish E) pins σ H s := ⟨I.ok.wish E, I.os, I.bare, I.base, I.loc, I.cell, I.free, I.freeC, I.pin, I.hok, I.len⟩
theorem Inv.unwish (I : Inv (X.wish E) pins σ H s) : Inv X pins σ H s := ⟨I.ok.unwish, I.os, I.bare, I.base, I.loc, I.cell, I.free, I.freeC, I.pin, I.hok, I.len⟩
theorem SP.unwish {D : Ends} {f : Flow} {s' : Shared} (h : SP (X.wish E) pins D f s') : SP X pins D f s' := by
  cases f with
  | next => obtain ⟨σ', H', I, q⟩ := h; exact ⟨σ', H', I.unwish, q⟩
  | brk => obtain ⟨σ', H', I, q⟩ := h; exact ⟨σ', H', I.unwish, q⟩
  | cont => obtain ⟨σ', H', I, q⟩ := h; exact ⟨σ', H', I.unwish, q⟩
  | ret u => obtain ⟨v, σ', H', I, r, q⟩ := h; exact ⟨v, σ', H', I.unwish, r, q⟩
theorem PE.nox {e : Expr} {t : TE} (h : PE X.nox e t) : PE X e t := fun pins s σ H Q I hw =>
  wpAny_mono (h pins s σ H Q (I.wish _) hw) (fun _ _ ⟨v, H', I', r, q⟩ => ⟨v, H', I'.unwish, r, q⟩) fun _ _ z => False.elim z
theorem PT.nox {e : Expr} {t : TT} (h : PT X.nox e t) : PT X e t := fun pins s σ H Q I hw =>
  wpAny_mono (h pins s σ H Q (I.wish _) hw) (fun _ _ ⟨H', I', q⟩ => ⟨H', I'.unwish, q⟩) fun _ _ z => False.elim z
theorem PSs.nox {st : List Stmt} {t : TS} (h : PSs X.nox st t) : PSs X st t := fun pins s σ H D I hw =>
  wpAny_mono (h pins s σ H D (I.wish _) hw) (fun _ _ q => q.unwish) fun _ _ z => False.elim z
end

/-! ### blocks and small statements -/
section
variable {X : Cx} {st : Stmt} {rest : List Stmt} {t u : TS} {e : Expr} {te : TE} {pos : Pos}
noncomputable def tNext : TS := fun D σ H => D.nx σ H
noncomputable def tSeq (t u : TS) : TS := fun D σ H => t { D with nx := u D } σ H
theorem pss_nil : PSs X [] tNext := fun _ _ σ H _ I h => wpAny_execs_nil ⟨σ, H, I, h⟩
theorem pss_cons (h1 : PS X st t) (h2 : PSs X rest u) : PSs X (st :: rest) (tSeq t u) := by
  intro pins s σ H D I h
  refine wpAny_execs_cons (thn (h1 pins s σ H { D with nx := u D } I h) fun f s1 q => ?_)
  cases f with
  | next =>
    obtain ⟨σ', H', I', q⟩ := q
    exact h2 pins s1 σ' H' D I' q
  | ret v => exact q
  | brk => exact q
  | cont => exact q
theorem pss_one (h1 : PS X st t) : PSs X [st] t := by
  intro pins s σ H D I h
  refine wpAny_execs_cons (thn (h1 pins s σ H D I h) fun f s1 q => ?_)
  cases f with
  | next => exact wpAny_execs_nil q
  | ret v => exact q
  | brk => exact q
  | cont => exact q
noncomputable def tBreak : TS := fun D σ H => D.bk σ H
noncomputable def tCont : TS := fun D σ H => D.ct σ H
/-- in a def's body nothing is shown -/
theorem Inv.quiet {pins : List (Addr × Obj)} {σ : St} {H : Hp} {s : Shared} (I : Inv X pins σ H s) : interactive X.env = false := by simp [interactive, I.ok.kind]
/-- an expression whose value is dropped -/
noncomputable def tDrop (te : TE) : TS := fun D σ H => te σ H fun _ H1 => D.nx σ H1
theorem ps_expr (he : PE X e te) (hs : swapsWith e none pos.line X.env = pure false := by rfl) : PS X (.Expr e pos) (tDrop te) := by
  intro pins s σ H D I h
  exact wpAny_Expr_any (thn (he pins s σ H _ I h) fun v s1 ⟨x, H1, I1, r1, q1⟩ => ⟨σ, H1, I1, q1⟩) I.quiet hs
noncomputable def tRet (te : TE) : TS := fun D σ H => te σ H D.rt
theorem ps_ret (he : PE X e te) : PS X (.Return (some e) pos) (tRet te) := by
  intro pins s σ H D I h
  exact wpAny_Return_some (thn (he pins s σ H _ I h) fun v s1 ⟨x, H1, I1, r1, q1⟩ => ⟨x, σ, H1, I1, r1, q1⟩)
noncomputable def tRetN : TS := fun D _ H => D.rt .non H
noncomputable def tIfS (c : TT) (t u : TS) : TS := fun D σ H => c σ H fun b H1 => if b = true then t D σ H1 else u D σ H1
theorem ps_if {c : Expr} {a b : List Stmt} {tc : TT} (hc : PT X c tc) (ha : PSs X a t) (hb : PSs X b u) : PS X (.If c a b pos) (tIfS tc t u) := by
  intro pins s σ H D I h
  refine wpAny_If (thn (hc pins s σ H _ I h) fun d s1 ⟨H1, I1, q1⟩ => ?_)
  cases d with
  | true => exact ha pins s1 σ H1 D I1 q1
  | false => exact hb pins s1 σ H1 D I1 q1
/-- code that the proof never comes to -/
noncomputable def tNever : TS := fun _ _ _ => False
end

/-! ### targets -/
noncomputable abbrev TG := V → St → Hp → (St → Hp → Prop) → Prop
noncomputable abbrev TGs := List V → St → Hp → (St → Hp → Prop) → Prop
noncomputable def PG (X : Cx) (target : Expr) (t : TG) : Prop :=
  ∀ (pins : List (Addr × Obj)) (s : Shared) (σ : St) (H : Hp) (v : V) (u : Value) (Q : St → Hp → Prop), Inv X pins σ H s → RelV v u → t v σ H Q →
    wpAny (model X.prog X.w) X.A (assign target X.env u) (fun _ s' => ∃ σ' H', Inv X pins σ' H' s' ∧ Q σ' H') X.xe s
/-- several targets, one after another -/
noncomputable def PGs (X : Cx) (ts : List Expr) (t : TGs) : Prop :=
  ∀ (pins : List (Addr × Obj)) (s : Shared) (σ : St) (H : Hp) (vs : List V) (us : List Value) (Q : St → Hp → Prop), Inv X pins σ H s → Vals vs us → t vs σ H Q →
    wpAny (model X.prog X.w) X.A (assignInOrder ((assignEach ts X.env).map (·.2)) us) (fun _ s' => ∃ σ' H', Inv X pins σ' H' s' ∧ Q σ' H') X.xe s
/-- o[i] = v, by values -/
noncomputable abbrev TSet := V → V → V → Hp → (Hp → Prop) → Prop
noncomputable def PSet (X : Cx) (t : TSet) : Prop :=
  ∀ (pins : List (Addr × Obj)) (s : Shared) (σ : St) (H : Hp) (o i v : V) (ov iv u : Value) (Q : Hp → Prop), Inv X pins σ H s → RelV o ov → RelV i iv → RelV v u → t o i v H Q →
    wpAny (model X.prog X.w) X.A (setItem ov iv u) (fun _ s' => ∃ H', Inv X pins σ H' s' ∧ Q H') X.xe s
/-- a op= b, by values -/
noncomputable abbrev TIp := V → V → Hp → VK → Prop
noncomputable def PIp (X : Cx) (op : Operator) (t : TIp) : Prop :=
  ∀ (pins : List (Addr × Obj)) (s : Shared) (σ : St) (H : Hp) (x y : V) (v u : Value) (Q : VK), Inv X pins σ H s → RelV x v → RelV y u → t x y H Q →
    wpAny (model X.prog X.w) X.A (inplaceOp op v u) (EP X pins σ Q) X.xe s
section
variable {X : Cx} {pos : Pos}
noncomputable def gName (i : Nat) : TG := fun v σ H Q => Q (σ.set i (some v)) H
theorem pg_name {i : Nat} {x : Str} (hN : X.N.Nodup) (hi : X.N[i]? = some x) (hx : Loc X.env.scope x) (hf : X.fn x = true ∨ X.env.scope.names.lookup x = some .local := by first | exact .inl rfl | exact .inr rfl | assumption) : PG X (.Name x pos) (gName i) := by
  intro pins s σ H v u Q I r h
  exact wpAny_assign_Name (store_ok I hN hi hx r (fun s' I' => ⟨_, H, I', h⟩) hf)
noncomputable def gNil : TGs := fun vs σ H Q => vs = [] ∧ Q σ H
noncomputable def gCons (t : TG) (u : TGs) : TGs := fun vs σ H Q => ∃ v r, vs = v :: r ∧ t v σ H fun σ' H' => u r σ' H' Q
theorem pgs_nil : PGs X [] gNil := by
  intro pins s σ H vs us Q I r h
  obtain ⟨e, h⟩ := h
  subst e
  cases r
  exact assignInOrder_nil ⟨σ, H, I, h⟩
theorem pgs_cons {e : Expr} {es : List Expr} {t : TG} {u : TGs} (h1 : PG X e t) (h2 : PGs X es u)
    (hs : (assignEach (e :: es) X.env).map (·.2) = assign e X.env :: (assignEach es X.env).map (·.2) := by rfl) : PGs X (e :: es) (gCons t u) := by
  intro pins s σ H vs us Q I r h
  obtain ⟨v, vr, e1, h⟩ := h
  subst e1
  cases r with
  | cons r rr =>
    rw [hs]
    refine assignInOrder_cons (thn (h1 pins s σ H _ _ _ I r h) fun _ s1 ⟨σ1, H1, I1, q1⟩ => ?_)
    exact h2 pins s1 σ1 H1 _ _ Q I1 rr q1
/-- (a, b, ..) = a tuple of that length -/
noncomputable def gTup (K : PySem.W.Frag) (n : Nat) (t : TGs) : TG := fun v σ H Q => ∃ a xs, v = .ref a ∧ SqT K H a xs ∧ xs.length = n ∧ t xs σ H Q
theorem pg_tup {es : List Expr} {k : Nat} {t : TGs} {n : Nat} (hc : X.calm = true) (h : PGs X es t)
    (hn : (assignEach es X.env).length = n := by rfl) (hst : (assignEach es X.env).findIdx? (·.1) = none := by rfl) : PG X (.Tuple es k pos) (gTup X.K n t) := by
  intro pins s σ H v u Q I r hw
  obtain ⟨a, xs, e1, hq, hl, hw⟩ := hw
  subst e1
  cases r
  obtain ⟨its, rv, ht, hz⟩ := I.tuple hq
  refine assign_Tuple_tuple (I.ok.hd hc) ht (by simp [hn, ← hl, rv.length]) hst fun h' hx => ?_
  have I1 : Inv X pins σ H { s with heap := h' } := I.kept (t' := s.toks) fun b o e => hx b o (Nat.ne_of_lt (Heap.lt_size e)) e
  exact h pins _ σ H xs _ Q I1 (by simpa using rv) hw
/-- o[i] = .. -/
noncomputable def gSub (to ti : TE) (t : TSet) : TG := fun v σ H Q => to σ H fun o H1 => ti σ H1 fun i H2 => t o i v H2 fun H3 => Q σ H3
/-- target = value -/
noncomputable def tAsg (te : TE) (g : TG) : TS := fun D σ H => te σ H fun x H1 => g x σ H1 D.nx
/-- name = value -/
theorem ps_set {i : Nat} {x : Str} {e : Expr} {te : TE} {pos' : Pos} (hN : X.N.Nodup) (hi : X.N[i]? = some x) (hx : Loc X.env.scope x) (he : PE X e te) (hs : swapsWith e (some (.Name x pos')) pos.line X.env = pure false := by rfl) (hf : X.fn x = true ∨ X.env.scope.names.lookup x = some .local := by first | exact .inl rfl | exact .inr rfl | assumption) :
    PS X (.Assign [.Name x pos'] e pos) (tAsg te (gName i)) := by
  intro pins s σ H D I h
  refine wpAny_Assign_Name (thn (he pins s σ H _ I h) fun v s1 ⟨y, H1, I1, r1, q1⟩ => ?_) hs
  exact store_ok I1 hN hi hx r1 (fun s2 I2 => ⟨_, H1, I2, q1⟩) hf
/-- a, b = x, y with plain local names: stored from the right; the pair itself is not tracked (the opening rows as in PyProof/Rows/TupAssign.lean:23) -/
noncomputable def tPar (i j : Nat) (ta : TA) : TS := fun D σ H => ta σ H fun vs H1 => ∃ v w, vs = [v, w] ∧ D.nx ((σ.set i (some v)).set j (some w)) H1
/-- name op= e -/
noncomputable def tAug (i : Nat) (te : TE) (ti : TIp) : TS := fun D σ H => ∃ x, σ[i]? = some (some x) ∧ te σ H fun y H1 => ti x y H1 fun z H2 => D.nx (σ.set i (some z)) H2
theorem ps_aug {i : Nat} {x : Str} {e : Expr} {te : TE} {op : Operator} {ti : TIp} {pos' : Pos} (hN : X.N.Nodup) (hi : X.N[i]? = some x) (hx : Loc X.env.scope x) (he : PE X e te) (ho : PIp X op ti) (hf : X.fn x = true ∨ X.env.scope.names.lookup x = some .local := by first | exact .inl rfl | exact .inr rfl | assumption) :
    PS X (.AugAssign (.Name x pos') op e pos) (tAug i te ti) := by
  intro pins s σ H D I h
  obtain ⟨v, e1, h⟩ := h
  obtain ⟨m, hn, hl⟩ := I.loc
  have vis : Vis X.env.scope x := by rcases hx with k | k; exact .inl k; exact .inr (.inl k)
  obtain ⟨u, r, l⟩ := hl i x v hi e1 vis
  refine wpAny_AugAssign_Name ?_
  have go : wpAny (model X.prog X.w) X.A (eval e X.env) (fun w s₂ => wpAny (model X.prog X.w) X.A (inplaceOp op u w) (fun r s₃ => wpAny (model X.prog X.w) X.A (storeName X.env x r) (fun _ => SP X pins D .next) X.xe s₃) X.xe s₂) X.xe s := by
    refine thn (he pins s σ H _ I h) fun w s1 ⟨y, H1, I1, r1, q1⟩ => ?_
    refine thn (ho pins s1 σ H1 v y u w _ I1 r r1 q1) fun z s2 ⟨zv, H2, I2, r2, q2⟩ => ?_
    exact store_ok I2 hN hi hx r2 (fun s3 I3 => ⟨_, H2, I3, q2⟩) hf
  rcases l with ⟨hk, hm⟩ | ⟨hk, c, hc, hcell⟩
  · exact wpAny_loadName_local I.ok.kind hk hn hm go
  · rcases hk with hk | hk
    · exact wpAny_loadName_cell I.ok.kind hk hc hcell go
    · rcases hx with k | k
      · have : X.env.scope.names.lookup x = some .free := hk
        rw [k] at this; cases this
      · have : X.env.scope.names.lookup x = some .free := hk
        rw [k] at this; cases this
/-- o[i] op= e -/
noncomputable def tAugS (to ti te : TE) (tget : V → V → Hp → VK → Prop) (tip : TIp) (tset : TSet) : TS := fun D σ H => to σ H fun o H1 => ti σ H1 fun i H2 => tget o i H2 fun x H3 => te σ H3 fun y H4 => tip x y H4 fun z H5 => tset o i z H5 fun H6 => D.nx σ H6
/-- o[i], by values -/
noncomputable def PGet (X : Cx) (t : V → V → Hp → VK → Prop) : Prop :=
  ∀ (pins : List (Addr × Obj)) (s : Shared) (σ : St) (H : Hp) (o i : V) (ov iv : Value) (Q : VK), Inv X pins σ H s → RelV o ov → RelV i iv → t o i H Q →
    wpAny (model X.prog X.w) X.A (getItem ov iv) (EP X pins σ Q) X.xe s
/-- ints -/
noncomputable def ipI (f : Int → Int → Int) : TIp := fun x y H Q => ∃ i j, x = .int i ∧ y = .int j ∧ Q (.int (f i j)) H
theorem ip_add : PIp X .Add (ipI fun i j => i + j) := by
  intro pins s σ H x y v u Q I r1 r2 h
  obtain ⟨i, j, e1, e2, q⟩ := h
  subst e1; subst e2
  obtain ⟨t, rfl⟩ := r1
  obtain ⟨t', rfl⟩ := r2
  exact iadd_int ⟨.int _, H, I.tok _, ⟨_, rfl⟩, q⟩
end

/-! ### while -/
section
variable {X : Cx} {pos : Pos}
/-- the invariant W with its measure -/
noncomputable def tWhile (c : TT) (tb : TS) : TS := fun D σ H => ∃ W : Nat → St → Hp → Prop, (∃ m, W m σ H) ∧ ∀ m σ H, W m σ H →
  c σ H fun b H1 => if b = true then ∃ N : St → Hp → Prop, (∀ σ' H', N σ' H' → ∃ m', m' < m ∧ W m' σ' H') ∧ tb { D with nx := N, ct := N, bk := D.nx } σ H1 else D.nx σ H1
theorem ps_while {c : Expr} {body : List Stmt} {tc : TT} {tb : TS} (hp : PassesOwn (model X.prog X.w) X.A X.env X.xe) (hc : PT X c tc) (hb : PSs X body tb) : PS X (.While c body [] pos) (tWhile tc tb) := by
  intro pins s σ H D I h
  obtain ⟨W, ⟨m0, w0⟩, turn⟩ := h
  refine wpAny_While (codeAny_whileLoop (fun n s' => ∃ σ' H', Inv X pins σ' H' s' ∧ W n σ' H') ?_ m0 ⟨σ, H, I, w0⟩)
  rintro n s1 ⟨σ1, H1, I1, w1⟩
  refine wpAny_passesOwn hp (thn (hc pins s1 σ1 H1 _ I1 (turn n σ1 H1 w1)) fun b s2 ⟨H2, I2, q2⟩ => ?_)
  cases b with
  | true =>
    obtain ⟨N, hN, q2⟩ := q2
    rw [if_pos rfl]
    refine wpAny_passesOwn hp (thn (hb pins s2 σ1 H2 _ I2 q2) fun f s3 q3 => ?_)
    cases f with
    | next =>
      obtain ⟨σ3, H3, I3, n3⟩ := q3
      obtain ⟨m', hm, w3⟩ := hN σ3 H3 n3
      exact ⟨m', hm, σ3, H3, I3, w3⟩
    | cont =>
      obtain ⟨σ3, H3, I3, n3⟩ := q3
      obtain ⟨m', hm, w3⟩ := hN σ3 H3 n3
      exact ⟨m', hm, σ3, H3, I3, w3⟩
    | brk => exact q3
    | ret v => exact q3
  | false =>
    rw [if_neg Bool.false_ne_true]
    exact wpAny_execs_nil ⟨σ1, H2, I2, q2⟩
end

/-! ### what a loop or a comprehension walks -/
/-- at turn i: it yields x (the heap may grow), or it stops -/
structure It where
  go : Nat → Hp → Prop
  yld : Nat → Hp → V → Hp → Prop
  stop : Nat → Hp → Prop
/-- the iterator's own objects may turn: they are not the frame's, not pinned, younger than the entry (or a comprehension's own) -/
noncomputable def FpOk (X : Cx) (pins : List (Addr × Obj)) (H : Hp) (b : Addr) : Prop :=
  H b = none ∧ b ≠ X.env.locals ∧ b ∉ X.fs ∧ (b ∈ X.ex ∨ X.s₀.heap.objs.size ≤ b) ∧ (∀ x c, X.env.cells.lookup x = some c → c ≠ b) ∧ ∀ p ∈ X.pn ++ pins, p.1 ≠ b
theorem Inv.fpOk {X : Cx} {pins : List (Addr × Obj)} {σ : St} {H H' : Hp} {s : Shared} {b : Addr} (I : Inv X pins σ H s) (hb : s.heap.objs.size ≤ b) (hn : H' b = none) : FpOk X pins H' b := by
  refine ⟨hn, Nat.ne_of_gt (Nat.lt_of_lt_of_le I.lt hb), I.nofs hb, .inr (Nat.le_trans I.sz hb), fun x c e z => ?_, fun p hp z => ?_⟩
  · obtain ⟨v, q⟩ := I.cell x c e
    exact absurd (Nat.lt_of_lt_of_le q.lt (by rw [z]; exact hb)) (Nat.lt_irrefl _)
  · exact absurd (Nat.lt_of_lt_of_le (Heap.lt_size (I.pin p hp).1) (by rw [z]; exact hb)) (Nat.lt_irrefl _)
structure Turn (P : Program) (w : World) (K : PySem.W.Frag) (tg : Expr) (J : It) (fp : List Addr) (it : Addr) (tn : Nat → Heap → Prop) : Prop where
  mem : it ∈ fp
  obj : ∀ i h, tn i h → ∀ b ∈ fp, ∃ o, h.get? b = some o ∧ ∀ v, o.data ≠ .cell v
  keep : ∀ i h h', tn i h → (∀ b ∈ fp, ∀ o, h.get? b = some o → h'.get? b = some o) → tn i h'
  item : ∀ (X : Cx), X.prog = P → X.w = w → X.K = K → X.calm = true → ∀ (i : Nat) (pins : List (Addr × Obj)) (s : Shared) (σ : St) (H : Hp) (E : Value → Shared → Prop), Inv X pins σ H s → (∀ b ∈ fp, FpOk X pins H b) → tn i s.heap → J.go i H →
    wpAny (model P w) X.A (pyNext (.ref it)) (fun r s1 => ∃ u, r = some u ∧
      wpAny (model P w) X.A (letOwnedTupleGo tg (.ref it) u) (fun _ s2 => ∃ x H', Inv X pins σ H' s2 ∧ RelV x u ∧ J.yld i H x H' ∧ tn (i + 1) s2.heap ∧ ∀ b ∈ fp, H' b = none) E s1) E s
  done : ∀ (X : Cx), X.prog = P → X.w = w → X.K = K → X.calm = true → ∀ (i : Nat) (pins : List (Addr × Obj)) (s : Shared) (σ : St) (H : Hp) (E : Value → Shared → Prop), Inv X pins σ H s → (∀ b ∈ fp, FpOk X pins H b) → tn i s.heap → J.stop i H →
    wpAny (model P w) X.A (pyNext (.ref it)) (fun r s1 => r = none ∧ Inv X pins σ H s1) E s
  self : ∀ (A : Around) (i : Nat) (s : Shared) (Q : Value → Shared → Prop) (E : Value → Shared → Prop), tn i s.heap → Q (.ref it) s → wpAny (model P w) A (pyIter (.ref it)) Q E s
noncomputable abbrev TI := St → Hp → (It → Hp → Prop) → Prop
/-- an iterator has come -/
noncomputable def PIE (X : Cx) (pins : List (Addr × Obj)) (σ : St) (tg : Expr) (R : It → Hp → Prop) (itv : Value) (s2 : Shared) : Prop :=
  ∃ (it : Addr) (fp : List Addr) (tn : Nat → Heap → Prop) (J : It) (H' : Hp), itv = .ref it ∧ Inv X pins σ H' s2 ∧ Turn X.prog X.w X.K tg J fp it tn ∧ tn 0 s2.heap ∧ (∀ b ∈ fp, FpOk X pins H' b) ∧ R J H'
noncomputable def PI (X : Cx) (tg iter : Expr) (wi : TI) : Prop :=
  ∀ (pins : List (Addr × Obj)) (s : Shared) (σ : St) (H : Hp) (R : It → Hp → Prop), Inv X pins σ H s → wi σ H R →
    wpAny (model X.prog X.w) X.A (eval iter X.env) (fun v s1 => wpAny (model X.prog X.w) X.A (pyIter v) (PIE X pins σ tg R) X.xe s1) X.xe s

/-- the step ahead of the store is nothing for an iterator that keeps no tuple -/
theorem go_of {M : Model} {A : Around} {E : Value → Shared → Prop} {s : Shared} {tg : Expr} {it : Addr} {u : Value} {o : Obj} {n : String} {vs : Array Value} {Q : Unit → Shared → Prop} (ho : s.heap.get? it = some o) (hc : o.cls = .type n) (hd : o.data = .fields vs)
    (hn : ["enumerate", "zip", "dict_itemiterator", "dict_reverseitemiterator", "odict_iterator", "itertools.zip_longest", "itertools.pairwise"].contains n = false) (hQ : Q () s) : wpAny M A (letOwnedTupleGo tg (.ref it) u) Q E s := by
  unfold letOwnedTupleGo
  cases tg <;> first
    | exact wpAny_pure hQ
    | (cases u <;> first
        | exact wpAny_pure hQ
        | (refine wpAny_bind (wpAny_load ho ?_)
           rw [hc, hd]
           show wpAny M A (if (["enumerate", "zip", "dict_itemiterator", "dict_reverseitemiterator", "odict_iterator", "itertools.zip_longest", "itertools.pairwise"].contains n && vs[0]? == some (rawInt _)) = true then _ else _) Q E s
           rw [if_neg (by intro h; rw [hn, Bool.false_and] at h; cases h)]
           exact wpAny_pure hQ))

/-- the list at a, as it stands at each turn (a loop may append to it) -/
noncomputable def Itl (K : PySem.W.Frag) (a : Addr) : It :=
  ⟨fun i H => ∃ xs x, SqL K H a xs ∧ xs[i]? = some x, fun i H x H' => H' = H ∧ ∀ xs, SqL K H a xs → xs[i]? = some x, fun i H => ∃ xs, SqL K H a xs ∧ xs.length ≤ i⟩
noncomputable def Itt (K : PySem.W.Frag) (a : Addr) : It :=
  ⟨fun i H => ∃ xs x, SqT K H a xs ∧ xs[i]? = some x, fun i H x H' => H' = H ∧ ∀ xs, SqT K H a xs → xs[i]? = some x, fun i H => ∃ xs, SqT K H a xs ∧ xs.length ≤ i⟩
/-- lo, lo + 1, .. (n of them) -/
noncomputable def Itr (lo : Int) (n : Nat) : It := ⟨fun i _ => i < n, fun i H x H' => H' = H ∧ x = .int (lo + i), fun i _ => n ≤ i⟩
theorem turn_list {P : Program} {w : World} {K : PySem.W.Frag} {tg : Expr} (a it : Addr) : Turn P w K tg (Itl K a) [it] it (fun i h => h.IsListIter it a i) where
  mem := by simp
  obj := fun i h st b hb => by
    have e : b = it := by simpa using hb
    subst e
    obtain ⟨o, e, c, d⟩ := st
    exact ⟨o, e, fun v z => by rw [d] at z; cases z⟩
  keep := fun i h h' st k => st.at fun o e => k it (by simp) o e
  item := by
    intro X hP hw hK hc i pins s σ H E I hf st hg
    subst hP hw hK
    obtain ⟨xs, x, hq, hx⟩ := hg
    obtain ⟨its, rv, p, hz⟩ := I.list hq
    obtain ⟨u, hu, ru⟩ := rv.get hx
    obtain ⟨f0, f1, f2, f3, f4, f5⟩ := hf it (by simp)
    refine wpAny_pyNext_list_item st p.isList (x := u) (by simpa using hu) fun h' st' sb => ?_
    have I1 : Inv X pins σ H { s with heap := h' } := I.turned (t' := s.toks) (fun b o hb e => (sb.2 b hb).trans e) f0 f1 f3 f4 f5
    obtain ⟨o, e, c, d⟩ := id st'
    exact ⟨u, rfl, go_of (s := { s with heap := h' }) e c d (by decide) ⟨x, H, I1, ru, ⟨rfl, fun ys hy => by rw [I.list_inj hy hq]; exact hx⟩, st', fun b hb => (hf b hb).1⟩⟩
  done := by
    intro X hP hw hK hc i pins s σ H E I hf st hg
    subst hP hw hK
    obtain ⟨xs, hq, hx⟩ := hg
    obtain ⟨its, rv, p, hz⟩ := I.list hq
    obtain ⟨f0, f1, f2, f3, f4, f5⟩ := hf it (by simp)
    have hl := rv.length
    exact wpAny_pyNext_list_end (I.ok.hd hc) st p.isList (by simp; omega) fun h' eb => ⟨rfl, I.turned (t' := s.toks) (fun b o hb e => eb b o hb e) f0 f1 f3 f4 f5⟩
  self := fun _ _ _ _ _ st h => wpAny_pyIter_listiter st h
theorem turn_tuple {P : Program} {w : World} {K : PySem.W.Frag} {tg : Expr} (a it : Addr) : Turn P w K tg (Itt K a) [it] it (fun i h => h.IsTupleIter it a i) where
  mem := by simp
  obj := fun i h st b hb => by
    have e : b = it := by simpa using hb
    subst e
    obtain ⟨o, e, c, d⟩ := st
    exact ⟨o, e, fun v z => by rw [d] at z; cases z⟩
  keep := fun i h h' st k => st.at fun o e => k it (by simp) o e
  item := by
    intro X hP hw hK hc i pins s σ H E I hf st hg
    subst hP hw hK
    obtain ⟨xs, x, hq, hx⟩ := hg
    obtain ⟨its, rv, p, hz⟩ := I.tuple hq
    obtain ⟨u, hu, ru⟩ := rv.get hx
    obtain ⟨f0, f1, f2, f3, f4, f5⟩ := hf it (by simp)
    refine wpAny_pyNext_tuple_item st (show s.heap.IsTuple a its.toArray from p) (x := u) (by simpa using hu) fun h' st' sb => ?_
    have I1 : Inv X pins σ H { s with heap := h' } := I.turned (t' := s.toks) (fun b o hb e => (sb.2 b hb).trans e) f0 f1 f3 f4 f5
    obtain ⟨o, e, c, d⟩ := id st'
    exact ⟨u, rfl, go_of (s := { s with heap := h' }) e c d (by decide) ⟨x, H, I1, ru, ⟨rfl, fun ys hy => by rw [I.tuple_inj hy hq]; exact hx⟩, st', fun b hb => (hf b hb).1⟩⟩
  done := by
    intro X hP hw hK hc i pins s σ H E I hf st hg
    subst hP hw hK
    obtain ⟨xs, hq, hx⟩ := hg
    obtain ⟨its, rv, p, hz⟩ := I.tuple hq
    obtain ⟨f0, f1, f2, f3, f4, f5⟩ := hf it (by simp)
    have hl := rv.length
    exact wpAny_pyNext_tuple_end (I.ok.hd hc) st (show s.heap.IsTuple a its.toArray from p) (by simp; omega) fun h' eb => ⟨rfl, I.turned (t' := s.toks) (fun b o hb e => eb b o hb e) f0 f1 f3 f4 f5⟩
  self := fun _ _ _ _ _ st h => wpAny_pyIter_tupleiter st h
theorem turn_range {P : Program} {w : World} {K : PySem.W.Frag} {tg : Expr} (it : Addr) (lo : Int) (n : Nat) : Turn P w K tg (Itr lo n) [it] it (fun i h => IsRangeIter h it (lo + (i : Nat) * 1) ((n : Int) - (i : Nat)) 1) where
  mem := by simp
  obj := fun i h st b hb => by
    have e : b = it := by simpa using hb
    subst e
    exact ⟨_, st, fun v z => by
      have z' : Data.fields _ = Data.cell v := z
      cases z'⟩
  keep := fun i h h' st k => k it (by simp) _ st
  item := by
    intro X hP hw hK hc i pins s σ H E I hf st hg
    subst hP hw hK
    obtain ⟨f0, f1, f2, f3, f4, f5⟩ := hf it (by simp)
    have W := Walks.range (prog := X.prog) (w := X.w) (I.ok.hd hc) it lo 1 n
    refine W.item i s _ _ hg st fun v h' tk hv st' kk => ?_
    obtain ⟨t, rfl⟩ := hv
    have I1 : Inv X pins σ H { s with heap := h', toks := tk } := I.turned (fun b o hb e => kk b o (by simpa using hb) e) f0 f1 f3 f4 f5
    refine ⟨_, rfl, go_of (s := { s with heap := h', toks := tk }) (n := "range_iterator") st' rfl rfl (by decide) ⟨.int (lo + i), H, I1, ⟨t, ?_⟩, ⟨rfl, rfl⟩, st', fun b hb => (hf b hb).1⟩⟩
    rw [Int.mul_one]
  done := by
    intro X hP hw hK hc i pins s σ H E I hf st hg
    subst hP hw hK
    obtain ⟨f0, f1, f2, f3, f4, f5⟩ := hf it (by simp)
    exact wpAny_pyNext_range_end (I.ok.hd hc) st (by have : n ≤ i := hg; omega) fun h' eb => ⟨rfl, I.turned (t' := s.toks) (fun b o hb e => eb b o hb e) f0 f1 f3 f4 f5⟩
  self := fun _ _ _ _ _ st h => wpAny_pyIter_rangeiter st h
end L2

namespace L2
open PySem PySem.Spec PyProof.Rows
section
variable {X : Cx} {tg : Expr}
noncomputable def iList (K : PySem.W.Frag) (tl : TE) : TI := fun σ H R => tl σ H fun x H1 => ∃ a, x = .ref a ∧ (∃ xs, SqL K H1 a xs) ∧ R (Itl K a) H1
noncomputable def iTup (K : PySem.W.Frag) (tl : TE) : TI := fun σ H R => tl σ H fun x H1 => ∃ a, x = .ref a ∧ (∃ xs, SqT K H1 a xs) ∧ R (Itt K a) H1
theorem pi_list {l : Expr} {tl : TE} (hl : PE X l tl) : PI X tg l (iList X.K tl) := by
  intro pins s σ H R I h
  refine thn (hl pins s σ H _ I h) fun v s1 ⟨x, H1, I1, r1, q1⟩ => ?_
  obtain ⟨a, e, ⟨xs, hq⟩, q⟩ := q1
  subst e
  cases r1
  obtain ⟨its, rv, p, hz⟩ := I1.list hq
  refine wpAny_pyIter_list p.isList ?_
  refine ⟨s1.heap.objs.size, [s1.heap.objs.size], _, _, H1, rfl, I1.kept (t' := s1.toks) fun b o e => Heap.get?_push_of_some _ e, turn_list a _, ⟨_, Heap.get?_push_size _ rfl, rfl, rfl⟩, fun b hb => ?_, q⟩
  have e : b = s1.heap.objs.size := by simpa using hb
  subst e
  exact I1.fpOk (Nat.le_refl _) (I1.hok.fresh (Nat.le_refl _))
theorem pi_tup {l : Expr} {tl : TE} (hl : PE X l tl) : PI X tg l (iTup X.K tl) := by
  intro pins s σ H R I h
  refine thn (hl pins s σ H _ I h) fun v s1 ⟨x, H1, I1, r1, q1⟩ => ?_
  obtain ⟨a, e, ⟨xs, hq⟩, q⟩ := q1
  subst e
  cases r1
  obtain ⟨its, rv, p, hz⟩ := I1.tuple hq
  refine wpAny_pyIter_tuple (show s1.heap.IsTuple a its.toArray from p) ?_
  refine ⟨s1.heap.objs.size, [s1.heap.objs.size], _, _, H1, rfl, I1.kept (t' := s1.toks) fun b o e => Heap.get?_push_of_some _ e, turn_tuple a _, ⟨_, Heap.get?_push_size _ rfl, rfl, rfl⟩, fun b hb => ?_, q⟩
  have e : b = s1.heap.objs.size := by simpa using hb
  subst e
  exact I1.fpOk (Nat.le_refl _) (I1.hok.fresh (Nat.le_refl _))
/-- a range object just made, walked -/
theorem range_it {pins : List (Addr × Obj)} {σ : St} {H : Hp} {s : Shared} {R : It → Hp → Prop} {E : Value → Shared → Prop} {lo hi : Int} {t u v : Tok} {tk : Nat} (I : Inv X pins σ H s) (h1 : -(2 ^ 62) ≤ lo) (h2 : lo < 2 ^ 62) (h3 : -(2 ^ 62) ≤ hi) (h4 : hi < 2 ^ 62)
    (q : R (Itr lo (hi - lo).toNat) H) : wpAny (model X.prog X.w) X.A (pyIter (.ref s.heap.objs.size)) (PIE X pins σ tg R) E { s with heap := s.heap.push { cls := .type "range", data := .fields #[.int lo t, .int hi u, .int 1 v] }, toks := tk } := by
  refine wpAny_pyIter_range (IsRange.new ..) (small_one h1 h2 h3 h4) ?_
  have I1 : Inv X pins σ H { s with heap := s.heap.push { cls := .type "range", data := .fields #[.int lo t, .int hi u, .int 1 v] }, toks := tk } := I.kept fun b o e => Heap.get?_push_of_some _ e
  refine ⟨(s.heap.push { cls := .type "range", data := .fields #[.int lo t, .int hi u, .int 1 v] }).objs.size, [(s.heap.push { cls := .type "range", data := .fields #[.int lo t, .int hi u, .int 1 v] }).objs.size], _, _, H, rfl,
    I1.kept (t' := tk) fun b o e => Heap.get?_push_of_some _ e, turn_range _ lo (hi - lo).toNat, ?_, fun b hb => ?_, q⟩
  · have e1 : lo + ((0 : Nat) : Int) * 1 = lo := by simp
    have e2 : (((hi - lo).toNat : Nat) : Int) - ((0 : Nat) : Int) = Builtin.Range.rangeSize lo hi 1 := by rw [rangeSize_one]; split <;> omega
    show IsRangeIter _ _ (lo + ((0 : Nat) : Int) * 1) ((((hi - lo).toNat : Nat) : Int) - ((0 : Nat) : Int)) 1
    rw [e1, e2]
    exact Heap.get?_push_size _ rfl
  · have e : b = (s.heap.push { cls := .type "range", data := .fields #[.int lo t, .int hi u, .int 1 v] }).objs.size := by simpa using hb
    subst e
    exact I1.fpOk (Nat.le_refl _) (I1.hok.fresh (Nat.le_refl _))
noncomputable def iRng1 (ta : TA) : TI := fun σ H R => ta σ H fun vs H1 => ∃ j : Int, vs = [.int j] ∧ -(2 ^ 62) ≤ j ∧ j < 2 ^ 62 ∧ R (Itr 0 j.toNat) H1
noncomputable def iRng2 (ta : TA) : TI := fun σ H R => ta σ H fun vs H1 => ∃ i j : Int, vs = [.int i, .int j] ∧ (-(2 ^ 62) ≤ i ∧ i < 2 ^ 62 ∧ -(2 ^ 62) ≤ j ∧ j < 2 ^ 62) ∧ R (Itr i (j - i).toNat) H1
theorem pi_range1 {a : Expr} {ta : TA} {p pos : Pos} (hg : Gl X "range") (hm : X.mg "range" = none) (ha : PA X [a] ta) (hs : starEach [a] X.env = [(false, eval a X.env)] := by rfl) : PI X tg (.Call (.Name "range" p) [a] [] pos) (iRng1 ta) := by
  intro pins s σ H R I h
  refine Call_ (ld_blt I hg hm boot_range (PyProof.Rows.callWith_type1 (thn (ha pos pins s σ H _ I h) fun us s1 ⟨vs, H1, I1, r1, q1⟩ => ?_) hs rfl))
  obtain ⟨j, e, q1, q2, q⟩ := q1
  subst e
  cases r1 with
  | cons r rr =>
    cases rr
    obtain ⟨t, rfl⟩ := r
    exact call_range_1 (range_it I1 (by omega) (by omega) q1 q2 (by simpa using q))
/-! ### for -/
/-- W: the invariant by the turn and a measure; N: what the body is to reach -/
noncomputable def tFor (wi : TI) (g : TG) (tb : TS) : TS := fun D σ H => wi σ H fun J H1 => ∃ W : Nat → Nat → St → Hp → Prop, (∃ m, W 0 m σ H1) ∧ ∀ i m σ H, W i m σ H →
  (J.stop i H ∧ D.nx σ H) ∨ (J.go i H ∧ ∃ N : St → Hp → Prop, (∀ σ' H', N σ' H' → ∃ m', m' < m ∧ W (i + 1) m' σ' H') ∧ ∀ x H', J.yld i H x H' → g x σ H' fun σ2 H2 => tb { D with nx := N, ct := N, bk := D.nx } σ2 H2)
/-- the records at fp as they stand -/
noncomputable def pinsAt (fp : List Addr) (h : Heap) : List (Addr × Obj) := fp.filterMap fun b => (h.get? b).map fun o => (b, o)
theorem mem_pinsAt {fp : List Addr} {h : Heap} {b : Addr} {o : Obj} (hb : b ∈ fp) (e : h.get? b = some o) : (b, o) ∈ pinsAt fp h := List.mem_filterMap.mpr ⟨b, hb, by rw [e]; rfl⟩
theorem of_pinsAt {fp : List Addr} {h : Heap} {p : Addr × Obj} (hp : p ∈ pinsAt fp h) : p.1 ∈ fp ∧ h.get? p.1 = some p.2 := by
  obtain ⟨b, hb, e⟩ := List.mem_filterMap.mp hp
  cases q : h.get? b with
  | none => rw [q] at e; cases e
  | some o =>
    rw [q] at e
    have e' : (b, o) = p := Option.some.inj e
    subst e'
    exact ⟨hb, q⟩
theorem Inv.pinned {pins : List (Addr × Obj)} {σ : St} {H : Hp} {s : Shared} {fp : List Addr} (I : Inv X pins σ H s) (hf : ∀ b ∈ fp, FpOk X pins H b) (ho : ∀ b ∈ fp, ∃ o, s.heap.get? b = some o ∧ ∀ v, o.data ≠ .cell v) : Inv X (pins ++ pinsAt fp s.heap) σ H s :=
  I.pins_of fun p hp => (List.mem_append.mp hp).elim (fun z => I.pin p (List.mem_append_right _ z)) fun z => by
    obtain ⟨hb, e⟩ := of_pinsAt z
    obtain ⟨f0, f1, f2, _⟩ := hf p.1 hb
    obtain ⟨o, e', d⟩ := ho p.1 hb
    rw [e] at e'; cases e'
    exact ⟨e, f0, f1, f2, d⟩
theorem Inv.unpinned {pins pl : List (Addr × Obj)} {σ : St} {H : Hp} {s : Shared} (I : Inv X (pins ++ pl) σ H s) : Inv X pins σ H s := I.pins_of fun p hp => I.pin p (List.mem_append_right _ (List.mem_append_left _ hp))
theorem ps_for {iter : Expr} {body : List Stmt} {wi : TI} {g : TG} {tb : TS} {pos : Pos} (hp : PassesOwn (model X.prog X.w) X.A X.env X.xe) (hc : X.calm = true) (hi : PI X tg iter wi) (hg : PG X tg g) (hb : PSs X body tb)
    (hs : ∀ x, foldedSetIterable iter X.env x = pure x := by intro _; rfl) : PS X (.For tg iter body [] pos) (tFor wi g tb) := by
  intro pins s σ H D I h
  refine wpAny_For (thn (hi pins s σ H _ I h) fun v s1 h1 => thn h1 fun itv s2 h2 => ?_) hs
  obtain ⟨it, fp, tn, J, H2, e, I2, T, st2, f2, W, ⟨m0, w0⟩, turn⟩ := h2
  subst e
  -- what stays true of the iterator's objects through the loop
  have stat : ∀ {H' : Hp}, (∀ b ∈ fp, H' b = none) → ∀ b ∈ fp, FpOk X pins H' b := fun hn b hb => ⟨hn b hb, (f2 b hb).2⟩
  refine codeAny_forLoop_any (fun n s' => ∃ i σ' H', Inv X pins σ' H' s' ∧ tn i s'.heap ∧ (∀ b ∈ fp, H' b = none) ∧ W i n σ' H') ?_ m0 ⟨0, σ, H2, I2, st2, fun b hb => (f2 b hb).1, w0⟩
  rintro n s3 ⟨i, σ3, H3, I3, st3, fr3, w3⟩
  rcases turn i n σ3 H3 w3 with ⟨stop, qn⟩ | ⟨go, N, hN, step⟩
  · refine wpAny_passesOwn hp (thn (T.done X rfl rfl rfl hc i pins s3 σ3 H3 X.xe I3 (stat fr3) st3 stop) fun r s4 ⟨hr, I4⟩ => ?_)
    subst hr
    exact wpAny_execs_nil ⟨σ3, H3, I4, qn⟩
  · refine wpAny_passesOwn hp (thn (T.item X rfl rfl rfl hc i pins s3 σ3 H3 X.xe I3 (stat fr3) st3 go) fun r s4 ⟨u, hr, h4⟩ => ?_)
    subst hr
    refine wpAny_passesOwn hp (thn h4 fun _ s5 ⟨x, H5, I5, r5, y5, st5, fr5⟩ => ?_)
    have I5' := I5.pinned (stat fr5) (T.obj _ _ st5)
    refine wpAny_passesOwn hp (thn (hg _ s5 σ3 H5 x u _ I5' r5 (step x H5 y5)) fun _ s6 ⟨σ6, H6, I6, q6⟩ => ?_)
    refine wpAny_passesOwn hp (thn (hb _ s6 σ6 H6 _ I6 q6) fun f s7 q7 => ?_)
    have again : ∀ {σ7 : St} {H7 : Hp}, Inv X (pins ++ pinsAt fp s5.heap) σ7 H7 s7 → N σ7 H7 → ∃ m, m < n ∧ ∃ i σ' H', Inv X pins σ' H' s7 ∧ tn i s7.heap ∧ (∀ b ∈ fp, H' b = none) ∧ W i m σ' H' := fun {σ7 H7} I7 n7 => by
      obtain ⟨m', hm, w7⟩ := hN σ7 H7 n7
      refine ⟨m', hm, i + 1, σ7, H7, I7.unpinned, T.keep _ _ _ st5 fun b hb o e => (I7.pin (b, o) (List.mem_append_right _ (List.mem_append_right _ (mem_pinsAt hb e)))).1, fun b hb => ?_, w7⟩
      obtain ⟨o, e, d⟩ := T.obj _ _ st5 b hb
      exact (I7.pin (b, o) (List.mem_append_right _ (List.mem_append_right _ (mem_pinsAt hb e)))).2.1
    cases f with
    | next => obtain ⟨σ7, H7, I7, n7⟩ := q7; exact again I7 n7
    | cont => obtain ⟨σ7, H7, I7, n7⟩ := q7; exact again I7 n7
    | brk => obtain ⟨σ7, H7, I7, q7⟩ := q7; exact ⟨σ7, H7, I7.unpinned, q7⟩
    | ret v => obtain ⟨x7, σ7, H7, I7, r7, q7⟩ := q7; exact ⟨x7, σ7, H7, I7.unpinned, r7, q7⟩
end

/-! ### the forms one uses -/
end L2

namespace L2
open PySem PySem.Spec PyProof.Rows

noncomputable abbrev R2 := V → V → Hp → VK → Prop
/-- a two-place operation on values: f is binaryOp op, inplaceOp op or compareOp op -/
noncomputable def OpR (X : Cx) (f : Value → Value → Sem Value) (r : R2) : Prop :=
  ∀ (pins : List (Addr × Obj)) (s : Shared) (σ : St) (H : Hp) (x y : V) (v u : Value) (Q : VK), Inv X pins σ H s → RelV x v → RelV y u → r x y H Q →
    wpAny (model X.prog X.w) X.A (f v u) (EP X pins σ Q) X.xe s
/-- a one-place operation -/
noncomputable def UnR (X : Cx) (f : Value → Sem Value) (r : V → Hp → VK → Prop) : Prop :=
  ∀ (pins : List (Addr × Obj)) (s : Shared) (σ : St) (H : Hp) (x : V) (v : Value) (Q : VK), Inv X pins σ H s → RelV x v → r x H Q →
    wpAny (model X.prog X.w) X.A (f v) (EP X pins σ Q) X.xe s
/-- a call of a value that is known (a builtin, a type) with values -/
noncomputable def CallR (X : Cx) (f : Value) (r : List V → Hp → VK → Prop) : Prop :=
  ∀ (pins : List (Addr × Obj)) (s : Shared) (σ : St) (H : Hp) (xs : List V) (us : List Value) (Q : VK), Inv X pins σ H s → Vals xs us → r xs H Q →
    wpAny (model X.prog X.w) X.A (call f us) (EP X pins σ Q) X.xe s
/-- a value's truth -/
noncomputable def TruR (X : Cx) (r : V → Hp → (Bool → Hp → Prop) → Prop) : Prop :=
  ∀ (pins : List (Addr × Obj)) (s : Shared) (σ : St) (H : Hp) (x : V) (v : Value) (Q : Bool → Hp → Prop), Inv X pins σ H s → RelV x v → r x H Q →
    wpAny (model X.prog X.w) X.A (truthy v) (TP X pins σ Q) X.xe s

noncomputable def tOp (r : R2) (ta tb : TE) : TE := fun σ H Q => ta σ H fun x H1 => tb σ H1 fun y H2 => r x y H2 Q
noncomputable def tUn (r : V → Hp → VK → Prop) (ta : TE) : TE := fun σ H Q => ta σ H fun x H1 => r x H1 Q
/-- ints in, under C, and a value out -/
noncomputable def rI (C : Int → Int → Prop) (g : Int → Int → V) : R2 := fun x y H Q => ∃ i j, x = .int i ∧ y = .int j ∧ C i j ∧ Q (g i j) H
noncomputable def rI0 (g : Int → Int → V) : R2 := fun x y H Q => ∃ i j, x = .int i ∧ y = .int j ∧ Q (g i j) H
noncomputable def rU (g : Int → V) : V → Hp → VK → Prop := fun x H Q => ∃ i, x = .int i ∧ Q (g i) H

section
variable {X : Cx} {a b c : Expr} {ta tb tc : TE} {pos : Pos}

theorem binT (ha : PE X a ta) (hb : PE X b tb) {pins : List (Addr × Obj)} {s : Shared} {σ : St} {H : Hp} {R : V → V → Hp → Prop} (I : Inv X pins σ H s)
    (h : ta σ H fun x H1 => tb σ H1 fun y H2 => R x y H2) {Q : Value → Shared → Prop} {f : Value → Value → Sem Value}
    (hf : ∀ v u s2 x y H2, Inv X pins σ H2 s2 → RelV x v → RelV y u → R x y H2 → wpAny (model X.prog X.w) X.A (f v u) Q X.xe s2) :
    wpAny (model X.prog X.w) X.A (eval a X.env) (fun v s₁ => wpAny (model X.prog X.w) X.A (eval b X.env) (fun u s₂ => wpAny (model X.prog X.w) X.A (f v u) Q X.xe s₂) X.xe s₁) X.xe s := by
  refine thn (ha pins s σ H _ I h) fun v s1 ⟨x, H1, I1, r1, q1⟩ => ?_
  refine thn (hb pins s1 σ H1 _ I1 q1) fun u s2 ⟨y, H2, I2, r2, q2⟩ => ?_
  exact hf v u s2 x y H2 I2 r1 r2 q2

theorem pe_op {op : Operator} {r : R2} (ho : OpR X (binaryOp op) r) (ha : PE X a ta) (hb : PE X b tb) : PE X (.BinOp a op b pos) (tOp r ta tb) := by
  intro pins s σ H Q I h
  exact wpAny_BinOp (binT ha hb I h fun v u s2 x y H2 I2 rx ry q => ho pins s2 σ H2 x y v u Q I2 rx ry q)
theorem pe_un {op : UnaryOp} {r : V → Hp → VK → Prop} (ho : UnR X (unaryOp op) r) (ha : PE X a ta) : PE X (.UnaryOp op a pos) (tUn r ta) := by
  intro pins s σ H Q I h
  exact UnaryOp_ (thn (ha pins s σ H _ I h) fun v s1 ⟨x, H1, I1, r1, q1⟩ => ho pins s1 σ H1 x v Q I1 r1 q1)
/-! ### ints -/
theorem opI {f : Value → Value → Sem Value} {C : Int → Int → Prop} {g : Int → Int → Int}
    (rule : ∀ (i j : Int) (t u : Tok) (s : Shared) (Q : Value → Shared → Prop) (E : Value → Shared → Prop), C i j → Q (.int (g i j) s.toks) { s with toks := s.toks + 1 } → wpAny (model X.prog X.w) X.A (f (.int i t) (.int j u)) Q E s) :
    OpR X f (rI C fun i j => .int (g i j)) := by
  intro pins s σ H x y v u Q I rx ry h
  obtain ⟨i, j, rfl, rfl, hc, q⟩ := h
  obtain ⟨t, rfl⟩ := rx
  obtain ⟨t', rfl⟩ := ry
  exact rule i j t t' s _ _ hc ⟨.int (g i j), H, I.tok _, ⟨_, rfl⟩, q⟩
theorem opI0 {f : Value → Value → Sem Value} {g : Int → Int → Int}
    (rule : ∀ (i j : Int) (t u : Tok) (s : Shared) (Q : Value → Shared → Prop) (E : Value → Shared → Prop), Q (.int (g i j) s.toks) { s with toks := s.toks + 1 } → wpAny (model X.prog X.w) X.A (f (.int i t) (.int j u)) Q E s) :
    OpR X f (rI0 fun i j => .int (g i j)) := by
  intro pins s σ H x y v u Q I rx ry h
  obtain ⟨i, j, rfl, rfl, q⟩ := h
  obtain ⟨t, rfl⟩ := rx
  obtain ⟨t', rfl⟩ := ry
  exact rule i j t t' s _ _ ⟨.int (g i j), H, I.tok _, ⟨_, rfl⟩, q⟩
theorem opB0 {f : Value → Value → Sem Value} {g : Int → Int → Bool}
    (rule : ∀ (i j : Int) (t u : Tok) (s : Shared) (Q : Value → Shared → Prop) (E : Value → Shared → Prop), Q (.bool (g i j)) s → wpAny (model X.prog X.w) X.A (f (.int i t) (.int j u)) Q E s) :
    OpR X f (rI0 fun i j => .bl (g i j)) := by
  intro pins s σ H x y v u Q I rx ry h
  obtain ⟨i, j, rfl, rfl, q⟩ := h
  obtain ⟨t, rfl⟩ := rx
  obtain ⟨t', rfl⟩ := ry
  exact rule i j t t' s _ _ ⟨.bl (g i j), H, I, rfl, q⟩

noncomputable def CDiv (i j : Int) : Prop := 0 < j ∧ j < 1073741824
noncomputable def CDivN (i j : Int) : Prop := j ≠ 0 ∧ j.natAbs < 1073741824
noncomputable def CPow (i j : Int) : Prop := 0 ≤ j ∧ j ≤ 1000000 ∧ i.natAbs < 2 ^ 64
noncomputable def CMul (i j : Int) : Prop := (-(2 ^ 64) < i ∧ i < 2 ^ 64) ∨ (-(2 ^ 64) < j ∧ j < 2 ^ 64)
theorem CMul.ok {i j : Int} (h : CMul i j) : IntMulOk i j := by
  rcases h with ⟨h1, h2⟩ | ⟨h1, h2⟩
  · exact .of_left (intBits_le_64 h1 h2)
  · exact .of_right (intBits_le_64 h1 h2)
theorem op_add : OpR X (binaryOp .Add) (rI0 fun i j => .int (i + j)) := opI0 fun _ _ _ _ _ _ _ q => add_int q
theorem op_sub : OpR X (binaryOp .Sub) (rI0 fun i j => .int (i - j)) := opI0 fun _ _ _ _ _ _ _ q => sub_int q
theorem op_mul : OpR X (binaryOp .Mult) (rI CMul fun i j => .int (i * j)) := opI fun _ _ _ _ _ _ _ hc q => mul_int q hc.ok
/-- // by a positive divisor -/
theorem op_fdiv : OpR X (binaryOp .FloorDiv) (rI CDiv fun i j => .int (i / j)) := opI fun i j _ _ _ _ _ hc q => by
  have h1 : (0 : Int) < j := hc.1
  have h2 : j < 1073741824 := hc.2
  exact floordiv_int (by omega) (by rw [Int.fdiv_eq_ediv_of_nonneg i (by omega)]; exact q) (.inl (PyProof.noPylong_small (by omega)))
/-- % by a positive divisor of any size -/
theorem op_mod : OpR X (binaryOp .Mod) (rI (fun _ j => 0 < j) fun i j => .int (i % j)) := opI fun i j _ _ _ _ _ hc q => by
  have h1 : (0 : Int) < j := hc
  exact mod_int' (by omega) (by rw [Int.fmod_eq_emod_of_nonneg i (by omega)]; exact q)
theorem unI {f : Value → Sem Value} {g : Int → Int}
    (rule : ∀ (i : Int) (t : Tok) (s : Shared) (Q : Value → Shared → Prop) (E : Value → Shared → Prop), Q (.int (g i) s.toks) { s with toks := s.toks + 1 } → wpAny (model X.prog X.w) X.A (f (.int i t)) Q E s) :
    UnR X f (rU fun i => .int (g i)) := by
  intro pins s σ H x v Q I rx h
  obtain ⟨i, rfl, q⟩ := h
  obtain ⟨t, rfl⟩ := rx
  exact rule i t s _ _ ⟨.int (g i), H, I.tok _, ⟨_, rfl⟩, q⟩
theorem un_neg : UnR X (unaryOp .USub) (rU fun i => .int (-i)) := unI fun _ _ _ _ _ q => neg_int q
/-! ### bools among ints: n += (a < b) -/
end

/-! ### comparisons -/
/-- the scalars that == tells apart as data does -/
noncomputable def scal : V → V → Bool
  | .non, .non => true | .non, .int _ => true | .int _, .non => true | .non, .bl _ => true | .bl _, .non => true | .non, .str _ => true | .str _, .non => true
  | .int _, .int _ => true | .bl _, .bl _ => true | .str _, .str _ => true | .byt _, .byt _ => true
  | .int _, .str _ => true | .str _, .int _ => true | .bl _, .str _ => true | .str _, .bl _ => true
  | _, _ => false
noncomputable def rEq : R2 := fun x y H Q => scal x y = true ∧ Q (.bl (decide (x = y))) H
noncomputable def rNe : R2 := fun x y H Q => scal x y = true ∧ Q (.bl (!decide (x = y))) H

section
variable {X : Cx} {a b c : Expr} {ta tb tc : TE} {pos : Pos}
theorem op_gt : OpR X (compareOp .Gt) (rI0 fun i j => .bl (decide (j < i))) := opB0 fun _ _ _ _ _ _ _ q => gt_int q
/-- is, is not of two objects that are tracked lists or instances -/
noncomputable def isObj : HO → Bool
  | .lst _ => true
  | .ins _ _ _ => true
  | _ => false
/-- two rules for one operation: by cases -/
theorem OpR.or {f : Value → Value → Sem Value} {r r' : R2} (h : OpR X f r) (h' : OpR X f r') : OpR X f (fun x y H Q => r x y H Q ∨ r' x y H Q) := by
  intro pins s σ H x y v u Q I rx ry q
  rcases q with q | q
  · exact h pins s σ H x y v u Q I rx ry q
  · exact h' pins s σ H x y v u Q I rx ry q

theorem nomark (b : Expr) {op : CmpOp} (h : op ≠ .In := by decide) (h2 : op ≠ .NotIn := by decide) : behindInMarks op b = false := by
  have e1 : (op == CmpOp.In) = false := by cases op <;> first | rfl | exact absurd rfl h
  have e2 : (op == CmpOp.NotIn) = false := by cases op <;> first | rfl | exact absurd rfl h2
  cases b <;> simp [behindInMarks, e1, e2]
/-- a comparison as a value; hm: nomark b, or (for in, not in) by with_unfolding_all rfl -/
theorem pe_cmpR {op : CmpOp} {r : R2} (ho : OpR X (compareOp op) r) (ha : PE X a ta) (hb : PE X b tb) (hm : behindInMarks op b = false) : PE X (.Compare a [op] [b] pos) (tOp r ta tb) := by
  intro pins s σ H Q I h
  exact wpAny_Compare1 (binT ha hb I h fun v u s2 x y H2 I2 rx ry q => ho pins s2 σ H2 x y v u Q I2 rx ry q) hm
/-- a reading of a value as a test -/
noncomputable def tTest (t : TE) : TT := fun σ H Q => t σ H fun x H' => ∃ k, x = .bl k ∧ Q k H'
theorem pt_cmpR {op : CmpOp} {r : R2} (ho : OpR X (compareOp op) r) (ha : PE X a ta) (hb : PE X b tb) (hm : behindInMarks op b = false) : PT X (.Compare a [op] [b] pos) (tTest (tOp r ta tb)) := by
  intro pins s σ H Q I h
  refine wpAny_isTrue_Compare1 (thn (ha pins s σ H _ I h) fun v s1 ⟨x, H1, I1, r1, q1⟩ => thn (hb pins s1 σ H1 _ I1 q1) fun u s2 ⟨y, H2, I2, r2, q2⟩ =>
    thn (ho pins s2 σ H2 x y v u _ I2 r1 r2 q2) fun c s3 ⟨z, H3, I3, r3, k, e, q3⟩ => ?_) hm
  subst e
  cases r3
  exact wpAny_truthy_bool ⟨H3, I3, q3⟩
/-- a op1 b op2 c -/
noncomputable def tChain (r r' : R2) (ta tb tc : TE) : TE := fun σ H Q => ta σ H fun x H1 => tb σ H1 fun y H2 => r x y H2 fun z H3 => ∃ k, z = .bl k ∧
  (if k = true then tc σ H3 fun w' H4 => r' y w' H4 Q else Q (.bl false) H3)
/-! ### truth -/
/-- a value's truth by the abstract heap -/
noncomputable def TruV (K : PySem.W.Frag) (x : V) (H : Hp) (k : Bool) : Prop :=
  match x with
  | .non => k = false
  | .bl b => k = b
  | .int i => k = (i != 0)
  | .str y => y.length ≤ sizeLine ∧ k = ((y.length : Int) != 0)
  | .byt y => y.size ≤ sizeLine ∧ k = ((y.size : Int) != 0)
  | .ref p => (∃ xs, SqL K H p xs ∧ k = !xs.isEmpty) ∨ (∃ xs, SqT K H p xs ∧ k = !xs.isEmpty) ∨ ∃ kvs, H p = some (.dK kvs) ∧ k = !kvs.isEmpty
  | _ => False
theorem line63 : (sizeLine : Nat) < 2 ^ 63 := by rw [sizeLine_eq]; decide
/-! ### strs and bytes -/
theorem op_add_str : OpR X (binaryOp .Add) (fun x y H Q => ∃ i j, x = .str i ∧ y = .str j ∧ i.length + j.length ≤ sizeLine ∧ Q (.str (i ++ j)) H) := by
  intro pins s σ H x y v u Q I rx ry h
  obtain ⟨i, j, rfl, rfl, hz, q⟩ := h
  obtain ⟨t, rfl⟩ := rx
  obtain ⟨t', rfl⟩ := ry
  exact add_str (fun t' tk => ⟨.str (i ++ j), H, I.tok _, ⟨_, rfl⟩, q⟩) hz
noncomputable def PlainIxT (b : Expr) : Prop := ∀ o i, subscripted b false o i = operate [o, i] (getItem o i)
/-! ### scalar builtins, by CallR -/
theorem vals1 {x : V} {us : List Value} (r : Vals [x] us) : ∃ u, us = [u] ∧ RelV x u := by
  cases r with
  | cons r1 r2 => cases r2; exact ⟨_, rfl, r1⟩
/-- len of a str, a bytes, a list, a tuple -/
noncomputable def LenV (K : PySem.W.Frag) (x : V) (H : Hp) (n : Nat) : Prop :=
  match x with
  | .str y => y.length ≤ sizeLine ∧ n = y.length
  | .byt y => y.size ≤ sizeLine ∧ n = y.size
  | .ref p => (∃ xs, SqL K H p xs ∧ n = xs.length) ∨ ∃ xs, SqT K H p xs ∧ n = xs.length
  | _ => False
end
end L2

namespace L2
open PySem PySem.Spec PyProof.Rows

/-! ### an instance, its attributes a map -/
structure ObjM (h : Heap) (x dx C : Addr) (mA : Str → Option Value) : Prop where
  obj : h.get? x = some (PySem.W.instObj C dx)
  ns : h.Ns1 dx mA
  ne : dx ≠ x

theorem lookIn_ns {h : Heap} {dx : Addr} {mA : Str → Option Value} (n : h.Ns1 dx mA) : ∃ od, h.get? dx = some od ∧ ∀ name, PySem.W.lookIn name od = some (mA name) := by
  obtain ⟨o, es, ep, ho, hd, hk, _, hm⟩ := n
  refine ⟨o, ho, fun name => ?_⟩
  have e := hm name
  unfold nsFind findBy at e
  rw [← Array.find?_toList] at e
  unfold PySem.W.lookIn
  rw [hd]
  dsimp only
  split
  · rename_i y q
    rw [q] at e
    exact congrArg some e
  · rename_i q
    rw [q] at e
    have a : es.toList.any (·.refKey) = false := by
      rw [List.any_eq_false]
      intro y hy
      obtain ⟨z, t, hkey⟩ := hk y (Array.mem_toList_iff.mp hy)
      simp [DictEntry.refKey, hkey]
    have a' : ¬ es.toList.any (·.refKey) = true := by rw [a]; exact Bool.false_ne_true
    rw [if_neg a']
    exact congrArg some e

theorem ObjM.look {h : Heap} {x dx C : Addr} {mA : Str → Option Value} (I : ObjM h x dx C mA) : ∃ od, PySem.W.InstAt h x (PySem.W.instObj C dx) C (some od) ∧ ∀ name, PySem.W.lookIn name od = some (mA name) :=
  let ⟨od, ho, hl⟩ := lookIn_ns I.ns
  ⟨od, ⟨I.obj, rfl, rfl, ho⟩, hl⟩

section
variable {prog : Program} {w : World} {A : Around} {E : Value → Shared → Prop} {s : Shared} {K : PySem.W.Frag} {x dx C f : Addr} {mA : Str → Option Value} {name : Str} {v : Value}

theorem get_map {expr : Bool} {Q : Value → Shared → Prop} (X : K.In s.heap) (I : ObjM s.heap x dx C mA) (hg : PySem.W.plainGet K C name = true) (hh : PySem.W.hasDictIn K C = true)
    (ha : PySem.W.findIn K (.ref C) name = some none) (hv : mA name = some v) (hv' : PySem.W.handedIn v = true) (h : Q v { s with toks := s.toks + 1 }) :
    wpAny (model prog w) A (getAttr (.ref x) name expr) Q E s := by
  obtain ⟨od, J, hl⟩ := I.look
  exact PySem.W.get_value X J (PySem.W.plainGet_of hg).1 (PySem.W.findObj_own hh ha rfl (by rw [hl, hv])) hv' h

theorem get_meth {pl : Sem Bool} {Q : Value × List Value → Shared → Prop} (X : K.In s.heap) (I : ObjM s.heap x dx C mA) (hg : PySem.W.plainGet K C name = true)
    (hf : PySem.W.findIn K (.ref C) name = some (some (.ref f))) (ht : PySem.W.isFn K (.ref f) = true) (hv : mA name = none) (h : Q (.ref f, [.ref x]) s) :
    wpAny (model prog w) A (getMethod (.ref x) name pl) Q E s := by
  obtain ⟨od, J, hl⟩ := I.look
  exact PySem.W.method_fn X J (PySem.W.plainGet_of hg).1 (PySem.W.plainGet_of hg).2 hf (beq_iff_eq.mp ht) (by show (PySem.W.lookIn name od).map (·.isSome) = some false; rw [hl, hv]; rfl) h

theorem set_map {ns : List Str} {Q : Unit → Shared → Prop} (X : K.In s.heap) (I : ObjM s.heap x dx C mA)
    (hs : PySem.W.findIn K (.ref C) "__setattr__" = some (some (.builtin "object.__setattr__"))) (hp : PySem.W.plainOver K C = true) (ht : PySem.W.takerIn K C name = some none) (hh : PySem.W.hasDictIn K C = true)
    (hw : PySem.Within mA ns) (hsz : ns.length ≤ sizeLine)
    (h : ∀ h', ObjM h' x dx C (fun y => if y = name then some v else mA y) → Heap.SameBut dx s.heap h' → Q () { s with heap := h', toks := s.toks + 2 }) :
    wpAny (model prog w) A (setAttr (.ref x) name v) Q E s := by
  obtain ⟨od, J, hl⟩ := I.look
  refine PySem.W.set_plain X J hs (PySem.W.osa_open (s := { s with toks := s.toks + 1 }) (r := none) X J hp ht fun b => ?_)
  obtain ⟨cd, hc, hd'⟩ := PySem.W.any_some hh
  have hx : s.heap.get? x = some ⟨.ref C, some dx, .plain, #[]⟩ := I.obj
  refine wpAny_bind (wpAny_pure (wpAny_bind (wpAny_bind (wpAny_loadPart hx (wpAny_bind (PySem.W.Looks.here (s := { s with toks := s.toks + 1 }) (PySem.W.looks_clsIn X hc) ?_))))))
  rw [hd']
  refine wpAny_pure (a := some dx) (wpAny_bind (wpAny_pure (wpAny_bind ?_)))
  refine wpAny_nsSet1 (s := { s with toks := s.toks + 1 }) I.ns fun h' hn2 hs2 => ?_
  obtain ⟨oD, esD, epD, hoD, hdD, hcD⟩ := hn2.count (PySem.Within.cons name v hw)
  refine wpAny_bind (wpAny_lookBehind hoD (by rw [hdD]; exact pastItsLine_dict (Nat.le_trans hcD (by rw [List.length_cons]; omega))) ?_)
  exact wpAny_pure (h _ ⟨(hs2.2 _ (Ne.symm I.ne)).trans I.obj, hn2, I.ne⟩ hs2)

/-- C(..): the dict at the heap's end, the instance behind it; then its __init__ -/
theorem make_map {R : Result → Shared → Prop} {vs : List Value} {kw : List (Str × Value)} (X : K.In s.heap) (hm : PySem.W.makesIn K C = true)
    (hi : PySem.W.findIn K (.ref C) "__init__" = some (some (.ref f))) (hf : PySem.W.typeIn K (.ref f) = some (.type "function"))
    (h : codeAny (model prog w) (A.under (.builtin "type.__call__" ⟨.ref C :: vs, kw⟩)) (.call (.ref f) ⟨.ref (s.heap.objs.size + 1) :: vs, kw⟩) (PySem.W.InitBack (s.heap.objs.size + 1) R)
      { s with heap := (s.heap.push PySem.W.emptyDict).push (PySem.W.instObj C s.heap.objs.size) }) :
    codeAny (model prog w) A (.call (.ref C) ⟨vs, kw⟩) R s := by
  obtain ⟨hh, g, d, t, os⟩ := s
  exact PySem.W.make_core (PySem.W.makes_of X hm) (PySem.W.looks_findIn X hi) (fun self => PySem.W.bind_fn X self hf) (.inl rfl) h
end

/-! ### the attributes as a list of pairs -/
noncomputable def putF (f : Str) (v : V) : List (Str × V) → List (Str × V)
  | [] => [(f, v)]
  | (g, x) :: r => if g = f then (g, v) :: r else (g, x) :: putF f v r
theorem lookup_putF (f g : Str) (v : V) : ∀ fs : List (Str × V), (putF f v fs).lookup g = if g = f then some v else fs.lookup g
  | [] => by
    show List.lookup g [(f, v)] = _
    by_cases h : g = f
    · have hb : (g == f) = true := beq_iff_eq.mpr h
      simp only [List.lookup, hb, if_pos h]
    · have hb : (g == f) = false := beq_eq_false_iff_ne.mpr h
      simp only [List.lookup, hb, if_neg h]
  | (k, x) :: r => by
    have ih := lookup_putF f g v r
    rw [show putF f v ((k, x) :: r) = (if k = f then (k, v) :: r else (k, x) :: putF f v r) from rfl]
    by_cases hk : k = f
    · rw [if_pos hk]
      by_cases h : g = k
      · have hb : (g == k) = true := beq_iff_eq.mpr h
        simp only [List.lookup, hb, if_pos (h.trans hk)]
      · have hb : (g == k) = false := beq_eq_false_iff_ne.mpr h
        simp only [List.lookup, hb, if_neg (fun e : g = f => h (e.trans hk.symm))]
    · rw [if_neg hk]
      by_cases h : g = k
      · have hb : (g == k) = true := beq_iff_eq.mpr h
        simp only [List.lookup, hb, if_neg (fun e : g = f => hk (h.symm.trans e))]
      · have hb : (g == k) = false := beq_eq_false_iff_ne.mpr h
        simp only [List.lookup, hb]
        exact ih
theorem keys_putF (f : Str) (v : V) : ∀ fs : List (Str × V), f ∈ (putF f v fs).map (·.1) ∧ ∀ g, g ∈ fs.map (·.1) → g ∈ (putF f v fs).map (·.1)
  | [] => ⟨by simp [putF], fun g h => by simp at h⟩
  | (k, x) :: r => by
    obtain ⟨i1, i2⟩ := keys_putF f v r
    rw [show putF f v ((k, x) :: r) = (if k = f then (k, v) :: r else (k, x) :: putF f v r) from rfl]
    by_cases hk : k = f
    · rw [if_pos hk]
      subst hk
      exact ⟨by simp, fun g h => by simpa using h⟩
    · rw [if_neg hk]
      refine ⟨?_, fun g h => ?_⟩
      · rw [List.map_cons]
        exact List.mem_cons_of_mem _ i1
      · rw [List.map_cons] at h ⊢
        rcases List.mem_cons.mp h with e | e
        · exact List.mem_cons.mpr (.inl e)
        · exact List.mem_cons_of_mem _ (i2 g e)
theorem length_putF (f : Str) (v : V) : ∀ fs : List (Str × V), (putF f v fs).length ≤ fs.length + 1
  | [] => by simp [putF]
  | (k, x) :: r => by
    have ih := length_putF f v r
    rw [show putF f v ((k, x) :: r) = (if k = f then (k, v) :: r else (k, x) :: putF f v r) from rfl]
    by_cases hk : k = f
    · rw [if_pos hk, List.length_cons, List.length_cons]; omega
    · rw [if_neg hk, List.length_cons, List.length_cons]; omega

theorem RelO.some_of {v : V} {o : Option Value} (r : RelO (some v) o) : ∃ u, o = some u ∧ RelV v u := by
  cases o with
  | none => exact (show False from r).elim
  | some u => exact ⟨u, rfl, r⟩
theorem RelO.none_of {o : Option Value} (r : RelO none o) : o = none := by
  cases o with
  | none => rfl
  | some u => exact (show False from r).elim
theorem handed_of {v : V} {u : Value} (r : RelV v u) : PySem.W.handedIn u = true := by
  cases v with
  | non => cases (show u = Value.none from r); rfl
  | bl b => cases (show u = Value.bool b from r); rfl
  | int i => obtain ⟨t, e⟩ := (show ∃ t, u = Value.int i t from r); cases e; rfl
  | str x => obtain ⟨t, e⟩ := (show ∃ t, u = Value.str x t from r); cases e; rfl
  | byt b => obtain ⟨t, e⟩ := (show ∃ t, u = Value.bytes b t from r); cases e; rfl
  | flt b => obtain ⟨t, e⟩ := (show ∃ t, u = Value.float b t from r); cases e; rfl
  | ref a => cases (show u = Value.ref a from r); rfl
  | ty n => cases (show u = Value.type n from r); rfl

section
variable {P : Program} {w : World} {H H' : Hp} {h h' : Heap} {a C dx : Addr} {fs fs' : List (Str × V)}
theorem ins_get (hok : HOk P w H h) (e : H a = some (.ins C dx fs)) : ∃ mA, ObjM h a dx C mA ∧ (∀ f, RelO (fs.lookup f) (mA f)) ∧ PySem.Within mA (fs.map (·.1)) ∧ fs.length ≤ 1000 ∧ H dx = some (.own a) := by
  obtain ⟨d, z, ne, ob, mA, n, r, q⟩ := (show ObjOk P w H h a (.ins C dx fs) from hok a _ e)
  exact ⟨mA, ⟨ob, n, ne⟩, r, q, z, d⟩
end

/-! ### what of the text a class must have -/
structure Cls (K : PySem.W.Frag) (C : Addr) : Prop where
  pg : PySem.W.plainGet K C Str.empty = true
  hd : PySem.W.hasDictIn K C = true
  po : PySem.W.plainOver K C = true
  sa : PySem.W.findIn K (.ref C) "__setattr__" = some (some (.builtin "object.__setattr__"))
theorem Cls.get {K : PySem.W.Frag} {C : Addr} (c : Cls K C) (f : Str) : PySem.W.plainGet K C f = true := c.pg
/-- no class of it has the name -/
noncomputable def NoAttr (K : PySem.W.Frag) (C : Addr) (f : Str) : Prop := PySem.W.findIn K (.ref C) f = some none
theorem NoAttr.taker {K : PySem.W.Frag} {C : Addr} {f : Str} (n : NoAttr K C f) : PySem.W.takerIn K C f = some none := by
  unfold PySem.W.takerIn
  rw [show PySem.W.findIn K (.ref C) f = some none from n]
  rfl
/-- a constant of the class -/
structure Con (K : PySem.W.Frag) (C : Addr) (f : Str) (v : V) (u : Value) : Prop where
  at_ : PySem.W.findIn K (.ref C) f = some (some u)
  rel : RelV v u
  get : PySem.W.specialIn K u "__get__" = some none
  cp : PySem.W.copiedNames.contains f = false
/-- a method: a plain def of the class or of one above it -/
structure Meth (K : PySem.W.Frag) (C : Addr) (m : Str) (f : Addr) : Prop where
  at_ : PySem.W.findIn K (.ref C) m = some (some (.ref f))
  fn : PySem.W.isFn K (.ref f) = true
  kp : PySem.W.keepIn K (.ref f) = true

section
variable {X : Cx} {pins : List (Addr × Obj)} {σ : St} {H : Hp} {s : Shared} {a C dx : Addr} {fs : List (Str × V)} {f : Str} {v : V} {A : Around} {E : Value → Shared → Prop}

theorem getattr_ok {b : Bool} {Q : Value → Shared → Prop} (I : Inv X pins σ H s) (e : H a = some (.ins C dx fs)) (c : Cls X.K C) (n : NoAttr X.K C f) (l : fs.lookup f = some v)
    (h : ∀ u s', Inv X pins σ H s' → RelV v u → Q u s') : wpAny (model X.prog X.w) A (getAttr (.ref a) f b) Q E s := by
  obtain ⟨mA, O, r, _, _, _⟩ := ins_get I.hok e
  obtain ⟨u, hu, ru⟩ := RelO.some_of (v := v) (o := mA f) (by rw [← l]; exact r f)
  exact get_map I.kIn O (c.get f) c.hd n hu (handed_of ru) (h u _ (I.tok _) ru)

theorem getmeth_ok {m : Str} {g : Addr} {pl : Sem Bool} {Q : Value × List Value → Shared → Prop} (I : Inv X pins σ H s) (e : H a = some (.ins C dx fs)) (c : Cls X.K C) (k : Meth X.K C m g) (l : fs.lookup m = none)
    (h : Q (.ref g, [.ref a]) s) : wpAny (model X.prog X.w) A (getMethod (.ref a) m pl) Q E s := by
  obtain ⟨mA, O, r, _, _, _⟩ := ins_get I.hok e
  have hn : mA m = none := RelO.none_of (by rw [← l]; exact r m)
  exact get_meth I.kIn O (c.get m) k.at_ k.fn hn h

theorem setattr_ok {y : V} {u : Value} {Q : Unit → Shared → Prop} (I : Inv X pins σ H s) (e : H a = some (.ins C dx fs)) (c : Cls X.K C) (n : NoAttr X.K C f) (hl : fs.length < 1000) (ry : RelV y u)
    (h : ∀ s', Inv X pins σ (upd H a (.ins C dx (putF f y fs))) s' → Q () s') : wpAny (model X.prog X.w) A (setAttr (.ref a) f u) Q E s := by
  obtain ⟨mA, O, r, wi, _, ho⟩ := ins_get I.hok e
  have hz : (fs.map (·.1)).length ≤ sizeLine := by rw [List.length_map, sizeLine_eq]; omega
  refine set_map I.kIn O c.sa c.po n.taker c.hd wi hz fun h' O' sb => h _ ?_
  have hd : ∃ o, h'.get? dx = some o := let ⟨o, _, _, e', _⟩ := O'.ns; ⟨o, e'⟩
  refine I.write (x := a) (e := dx) (by rw [e]; exact True.intro) (.inr ho) (fun b q hb z => (sb.2 b hb).trans z) hd ?_
  refine ⟨by rw [upd_ne O.ne]; exact ho, ?_, O.ne, O'.obj, _, O'.ns, fun g => ?_, fun g hg => ?_⟩
  · have := length_putF f y fs; omega
  · show RelO ((putF f y fs).lookup g) (if g = f then some u else mA g)
    rw [lookup_putF]
    by_cases q : g = f
    · rw [if_pos q, if_pos q]; exact ry
    · rw [if_neg q, if_neg q]; exact r g
  · by_cases q : g = f
    · rw [q]; exact (keys_putF f y fs).1
    · refine (keys_putF f y fs).2 g (wi g fun z => hg ?_)
      show (if g = f then some u else mA g) = none
      rw [if_neg q]; exact z

/-- a new instance, tracked, without attributes -/
theorem Inv.made (I : Inv X pins σ H s) : Inv X pins σ (upd (upd H s.heap.objs.size (.own (s.heap.objs.size + 1))) (s.heap.objs.size + 1) (.ins C s.heap.objs.size []))
    { s with heap := (s.heap.push PySem.W.emptyDict).push (PySem.W.instObj C s.heap.objs.size) } := by
  have e1 : (s.heap.push PySem.W.emptyDict).get? s.heap.objs.size = some PySem.W.emptyDict := Heap.get?_push_size s.heap rfl
  have e2 : ((s.heap.push PySem.W.emptyDict).push (PySem.W.instObj C s.heap.objs.size)).get? (s.heap.objs.size + 1) = some (PySem.W.instObj C s.heap.objs.size) := by
    have := Heap.get?_push_size (s.heap.push PySem.W.emptyDict) (o := PySem.W.instObj C s.heap.objs.size) rfl
    rwa [Heap.size_push] at this
  have e3 : (s.heap.push PySem.W.emptyDict).Ns s.heap.objs.size (fun _ => none) := ⟨PySem.W.emptyDict, #[], _, e1, rfl, (fun e he => absurd he (by simp)), fun _ => rfl⟩
  have I1 := I.laid (a := s.heap.objs.size) (o := .own (s.heap.objs.size + 1)) (h' := s.heap.push PySem.W.emptyDict) (t' := s.toks) (fun b u q => Heap.get?_push_of_some _ q) (Nat.le_refl _) ⟨_, e1⟩
  refine I1.laid (a := s.heap.objs.size + 1) (o := .ins C s.heap.objs.size []) (t' := s.toks) (fun b u q => Heap.get?_push_of_some _ q) (Nat.le_of_eq (Heap.size_push _ _)) ?_
  have ne : s.heap.objs.size ≠ s.heap.objs.size + 1 := Nat.ne_of_lt (Nat.lt_succ_self _)
  refine ⟨by rw [upd_ne ne, upd_same], Nat.zero_le _, ne, e2, fun _ => none, (Heap.Ns1.of_empty e3).at fun o q => Heap.get?_push_of_some _ q, fun _ => True.intro, fun y hy => absurd rfl hy⟩

/-- e.f where nothing but the object is asked: through attributeBase (super) and the last hold -/
theorem attr_of {prog : Program} {w : World} {env : Env} {e : Expr} {f : Str} {pos : Pos} {s : Shared} {Q : Value → Shared → Prop} (hb : attributeBase e f env (eval e env) = eval e env)
    (h : wpAny (model prog w) A (eval e env) (fun o s₁ => wpAny (model prog w) A (getAttr o f true) Q E s₁) E s) : wpAny (model prog w) A (eval (.Attribute e f pos) env) Q E s :=
  Attribute_any_ h (by rw [arm_eval_Attribute, hb])
end

/-! ### readings and rules -/
/-- e.f, an attribute of the instance -/
noncomputable def tFld (K : PySem.W.Frag) (ta : TE) (f : Str) : TE := fun σ H Q => ta σ H fun x H1 => ∃ a C dx fs v, x = .ref a ∧ H1 a = some (.ins C dx fs) ∧ Cls K C ∧ NoAttr K C f ∧ fs.lookup f = some v ∧ Q v H1
/-- e.f, a constant of the class -/
noncomputable def tCon (K : PySem.W.Frag) (ta : TE) (f : Str) : TE := fun σ H Q => ta σ H fun x H1 => ∃ a C dx fs v u, x = .ref a ∧ H1 a = some (.ins C dx fs) ∧ Cls K C ∧ Con K C f v u ∧ fs.lookup f = none ∧ Q v H1
/-- e.f = value -/
noncomputable def sFld (K : PySem.W.Frag) (ta tv : TE) (f : Str) : TS := fun D σ H => tv σ H fun y H1 => ta σ H1 fun x H2 => ∃ a C dx fs, x = .ref a ∧ H2 a = some (.ins C dx fs) ∧ Cls K C ∧ NoAttr K C f ∧ fs.length < 1000 ∧
  D.nx σ (upd H2 a (.ins C dx (putF f y fs)))
/-- an augmented operator on two values -/
noncomputable def InOp (X : Cx) (op : Operator) (rd : V → V → Hp → VK → Prop) : Prop :=
  ∀ (pins : List (Addr × Obj)) (s : Shared) (σ : St) (H : Hp) (x y : V) (u v : Value) (Q : VK), Inv X pins σ H s → RelV x u → RelV y v → rd x y H Q → wpAny (model X.prog X.w) X.A (inplaceOp op u v) (EP X pins σ Q) X.xe s
/-- e.f op= value -/
noncomputable def sFldAug (K : PySem.W.Frag) (ta tv : TE) (rd : V → V → Hp → VK → Prop) (f : Str) : TS := fun D σ H => ta σ H fun x H1 => ∃ a C dx fs v, x = .ref a ∧ H1 a = some (.ins C dx fs) ∧ Cls K C ∧ NoAttr K C f ∧ fs.lookup f = some v ∧
  tv σ H1 fun y H2 => rd v y H2 fun z H3 => ∃ dx' fs', H3 a = some (.ins C dx' fs') ∧ fs'.length < 1000 ∧ D.nx σ (upd H3 a (.ins C dx' (putF f z fs')))

section
variable {X : Cx} {o e value : Expr} {f : Str} {pos pos' tpos : Pos} {ta tv : TE}
theorem pe_fld (he : PE X e ta) (hb : attributeBase e f X.env (eval e X.env) = eval e X.env) : PE X (.Attribute e f pos) (tFld X.K ta f) := by
  intro pins s σ H Q I h
  refine attr_of hb (thn (he pins s σ H _ I h) fun u s1 ⟨x, H1, I1, rx, a, C, dx, fs, v, ex, ea, c, n, l, q⟩ => ?_)
  subst ex
  obtain rfl : u = Value.ref a := rx
  exact getattr_ok I1 ea c n l fun u' s2 I2 ru => ⟨v, H1, I2, ru, q⟩
theorem ps_fld (ha : PE X o ta) (hv : PE X value tv) (hs : swapsWith value (some (.Attribute o f pos')) pos.line X.env = pure false) : PS X (.Assign [.Attribute o f pos'] value pos) (sFld X.K ta tv f) := by
  intro pins s σ H D I h
  refine plainObj_wpAny_Assign_Attribute (thn (hv pins s σ H _ I h) fun u s1 ⟨y, H1, I1, ry, q⟩ => thn (ha pins s1 σ H1 _ I1 q) fun ov s2 ⟨x, H2, I2, rx, a, C, dx, fs, ex, ea, c, n, l, q2⟩ => ?_) hs
  subst ex
  obtain rfl : ov = Value.ref a := rx
  exact setattr_ok I2 ea c n l ry fun s3 I3 => ⟨σ, _, I3, q2⟩
theorem ps_fldaug {op : Operator} {rd : V → V → Hp → VK → Prop} (ha : PE X o ta) (hv : PE X value tv) (hop : InOp X op rd) : PS X (.AugAssign (.Attribute o f tpos) op value pos) (sFldAug X.K ta tv rd f) := by
  intro pins s σ H D I h
  refine wpAny_AugAssign_AttributeAny (thn (ha pins s σ H _ I h) fun ov s1 ⟨x, H1, I1, rx, a, C, dx, fs, v, ex, ea, c, n, l, q⟩ => ?_)
  subst ex
  obtain rfl : ov = Value.ref a := rx
  refine getattr_ok I1 ea c n l fun u s2 I2 ru => thn (hv pins s2 σ H1 _ I2 q) fun w3 s3 ⟨y, H2, I3, ry, q3⟩ => thn (hop pins s3 σ H2 v y u w3 _ I3 ru ry q3) fun w4 s4 ⟨z, H3, I4, rz, dx', fs', ea', l', q4⟩ => ?_
  exact setattr_ok I4 ea' c n l' rz fun s5 I5 => ⟨σ, _, I5, q4⟩
noncomputable def rAdd : V → V → Hp → VK → Prop := fun x y H Q => ∃ i j, x = .int i ∧ y = .int j ∧ Q (.int (i + j)) H
noncomputable def rSub : V → V → Hp → VK → Prop := fun x y H Q => ∃ i j, x = .int i ∧ y = .int j ∧ Q (.int (i - j)) H
theorem in_add : InOp X .Add rAdd := by
  rintro pins s σ H x y u v Q I rx ry ⟨i, j, rfl, rfl, q⟩
  obtain ⟨t, rfl⟩ := (show ∃ t, u = Value.int i t from rx)
  obtain ⟨t', rfl⟩ := (show ∃ t', v = Value.int j t' from ry)
  exact PyProof.Rows.iadd_int ⟨.int (i + j), H, I.tok _, ⟨_, rfl⟩, q⟩
theorem in_sub : InOp X .Sub rSub := by
  rintro pins s σ H x y u v Q I rx ry ⟨i, j, rfl, rfl, q⟩
  obtain ⟨t, rfl⟩ := (show ∃ t, u = Value.int i t from rx)
  obtain ⟨t', rfl⟩ := (show ∃ t', v = Value.int j t' from ry)
  exact PyProof.Rows.isub_int ⟨.int (i - j), H, I.tok _, ⟨_, rfl⟩, q⟩

end

/-! ### isinstance -/
section
variable {X : Cx} {pins : List (Addr × Obj)} {σ : St} {H : Hp} {s : Shared} {A : Around} {E : Value → Shared → Prop} {Q : Value → Shared → Prop} {c : Value} {b : Bool}
/-- the type of a value, as the fragment's deciders take it; for an instance its class -/
inductive TyOf (K : PySem.W.Frag) (H : Hp) : V → Value → Prop where
  | non : TyOf K H .non (.type "NoneType")
  | bl (x : Bool) : TyOf K H (.bl x) (.type "bool")
  | int (i : Int) : TyOf K H (.int i) (.type "int")
  | str (x : Str) : TyOf K H (.str x) (.type "str")
  | flt (x : UInt64) : TyOf K H (.flt x) (.type "float")
  | lst {a : Addr} {xs : List V} (e : H a = some (.lst xs)) : TyOf K H (.ref a) (.type "list")
  | frz {a : Addr} {o : Obj} {xs : List V} (e : H a = some (.frz o (.lst xs))) : TyOf K H (.ref a) (.type "list")
  | tup {a : Addr} {xs : List V} (e : H a = some (.tup xs)) : TyOf K H (.ref a) (.type "tuple")
  | dK {a : Addr} {kvs : List (Key × V)} (e : H a = some (.dK kvs)) : TyOf K H (.ref a) (.type "dict")
  | dT {a : Addr} {kvs : List (List Key × V)} (e : H a = some (.dT kvs)) : TyOf K H (.ref a) (.type "dict")
  | ins {a C dx : Addr} {fs : List (Str × V)} (e : H a = some (.ins C dx fs)) (cl : Cls K C) (ha : PySem.W.findIn K (.ref C) "__class__" = some (some (.builtin "object.__class__")))
      (hn : PySem.W.specialIn K (.builtin "object.__class__") "__get__" = some (some (.builtin "getset_descriptor.__get__"))) (htk : PySem.W.takesIn K (.builtin "object.__class__") = some true)
      (hm : PySem.W.mroIn K C (.type "object") = some true) : TyOf K H (.ref a) (.ref C)
end
end L2

namespace L2
open PySem PySem.Spec PyProof.Rows

/-! ### room -/
structure Room (k : Nat) (A : Around) : Prop where
  hd : A.handled = none
  dp : A.depth + 3 * k + 5 < recursionLimit
  un : A.units + 16 * k + 200 < cLine
theorem Room.mono {j k : Nat} {A : Around} (r : Room k A) (h : j ≤ k) : Room j A := ⟨r.hd, by have := r.dp; omega, by have := r.un; omega⟩
theorem Room.deeper {k : Nat} {A : Around} (r : Room (k + 1) A) (env : Env) : Room k (A.deeper env) :=
  ⟨r.hd, by have := r.dp; show A.depth + 1 + 3 * k + 5 < _; omega, by have := r.un; show A.units + 3 + 16 * k + 200 < _; omega⟩
theorem Room.in1 {k : Nat} {A : Around} (r : Room (k + 1) A) : Room k A.in1 :=
  ⟨r.hd, by have := r.dp; show A.depth + 3 * k + 5 < _; omega, by have := r.un; show A.units + 1 + 16 * k + 200 < _; omega⟩
theorem make_depth {A : Around} {C : Addr} {us : List Value} {kw : List (Str × Value)} : (A.under (.builtin "type.__call__" ⟨.ref C :: us, kw⟩)).depth = A.depth + 1 := by
  first | rfl | simp [Around.under, Code.weight, Code.isCreation, Code.isGuard, Code.isCaller, Code.frames, Code.isFrame, guardIds]
theorem make_units {A : Around} {C : Addr} {us : List Value} {kw : List (Str × Value)} : (A.under (.builtin "type.__call__" ⟨.ref C :: us, kw⟩)).units = A.units + 1 := by
  first | rfl | simp [Around.under, Code.cUnits, Code.frames, Code.isFrame]
theorem Room.make {k : Nat} {A : Around} (r : Room (k + 1) A) (C : Addr) (us : List Value) (kw : List (Str × Value)) : Room k (A.under (.builtin "type.__call__" ⟨.ref C :: us, kw⟩)) :=
  ⟨r.hd, by have := r.dp; rw [make_depth]; omega, by have := r.un; rw [make_units]; omega⟩
theorem Room.depth {k : Nat} {A : Around} (r : Room k A) : A.depth < recursionLimit := by have := r.dp; omega
theorem Room.units {k : Nat} {A : Around} (r : Room k A) : A.units + 64 < cLine := by have := r.un; omega
/-! ### argument lists and displays -/
noncomputable def tNil : TA := fun _ H Q => Q [] H
noncomputable def tCons (ta : TE) (tr : TA) : TA := fun σ H Q => ta σ H fun x H1 => tr σ H1 fun xs H2 => Q (x :: xs) H2
section
variable {X : Cx} {e : Expr} {es : List Expr} {te : TE} {t : TA} {pos : Pos}
theorem pa_nil : PA X [] tNil := fun _ _ _ _ H Q I h => Calls.spliced_nil ⟨[], H, I, .nil, h⟩
theorem pa_cons (ha : PE X e te) (hr : PA X es t) (hs : starEach (e :: es) X.env = (false, eval e X.env) :: starEach es X.env := by rfl) : PA X (e :: es) (tCons te t) := by
  intro pos pins s σ H Q I h
  rw [hs]
  show wpAny _ _ (spliced ((false, eval e X.env) :: backTo pos (starEach es X.env))) _ _ s
  refine Calls.spliced_cons (thn (ha pins s σ H _ I h) fun u s1 ⟨x, H1, I1, r1, q1⟩ => ?_)
  exact thn (hr pos pins s1 σ H1 _ I1 q1) fun us s2 ⟨xs, H2, I2, r2, q2⟩ => ⟨x :: xs, H2, I2, .cons r1 r2, q2⟩

/-- a tuple, a list of written items -/
noncomputable def tTup (t : TA) : TE := fun σ H Q => t σ H fun xs H1 => xs.length ≤ sizeLine ∧ ∀ p, H1 p = none → Q (.ref p) (upd H1 p (.tup xs))
noncomputable def tLst (t : TA) : TE := fun σ H Q => t σ H fun xs H1 => xs.length ≤ sizeLine ∧ ∀ p, H1 p = none → Q (.ref p) (upd H1 p (.lst xs))
theorem pe_tup {x1} (h : PA X es t) : PE X (.Tuple es x1 pos) (tTup t) := by
  intro pins s σ H Q I hq
  refine wpAny_Tuple_spliced (thn (h pos pins s σ H _ I hq) fun us s1 ⟨xs, H1, I1, r, z, q⟩ => ⟨by rw [← r.length]; exact z, ?_⟩)
  have hf : H1 s1.heap.objs.size = none := I1.hok.fresh (Nat.le_refl _)
  refine ⟨.ref s1.heap.objs.size, upd H1 s1.heap.objs.size (.tup xs), I1.laid (t' := s1.toks) (fun b u e => Heap.get?_push_of_some _ e) (Nat.le_refl _) ?_, rfl, q _ hf⟩
  exact ⟨z, us, r, ⟨_, Heap.get?_push_size _ rfl, rfl, _, rfl⟩⟩
theorem pe_lst (h : PA X es t) : PE X (.List es pos) (tLst t) := by
  intro pins s σ H Q I hq
  refine wpAny_List_spliced (thn (h pos pins s σ H _ I hq) fun us s1 ⟨xs, H1, I1, r, z, q⟩ => ⟨by rw [← r.length]; exact z, ?_⟩)
  have hf : H1 s1.heap.objs.size = none := I1.hok.fresh (Nat.le_refl _)
  refine ⟨.ref s1.heap.objs.size, upd H1 s1.heap.objs.size (.lst xs), I1.laid (t' := s1.toks) (fun b u e => Heap.get?_push_of_some _ e) (Nat.le_refl _) ?_, rfl, q _ hf⟩
  exact ⟨z, us, 0, r, Heap.get?_push_size _ rfl⟩
end

/-! ### what a def promises -/
/-- a def's promise: the bound arguments in the parameters' order, the heap, the wanted end, the wanted exception -/
noncomputable abbrev Sp := List V → Hp → VK → XK → Prop
/-- how an exception lies behind a call (file 08 gives it): the callers' frames, abstract heap and state ahead of the call, the wish, the exception, the state -/
noncomputable abbrev CXT := List Env → Hp → Shared → XK → Value → Shared → Prop

/-- the state at a call -/
structure Env0 (P : Program) (w : World) (K : PySem.W.Frag) (mg : Str → Option Value) (base : Heap) (A : Around) (outer : List Env) (s : Shared) (H : Hp) : Prop where
  frames : A.frames = some outer
  mod : Mod K mg base
  bs : ∀ b o, base.get? b = some o → s.heap.get? b = some o ∧ H b = none
  bsz : base.objs.size ≤ s.heap.objs.size
  funs : s.heap.FunFrames base outer
  frf : ∀ b ∈ frs outer, H b = none
  hok : HOk P w H s.heap
  bare : AllBare s.gens
/-- a call's end -/
noncomputable def CE (outer : List Env) (P : Program) (w : World) (H : Hp) (s : Shared) (Q : VK) (u : Value) (s' : Shared) : Prop :=
  ∃ v H', s'.os = s.os ∧ AllBare s'.gens ∧ Un (frs outer) [] H H' s.heap s'.heap ∧ HOk P w H' s'.heap ∧ RelV v u ∧ Q v H'
noncomputable def CR (CX : CXT) (outer : List Env) (P : Program) (w : World) (H : Hp) (s : Shared) (Q : VK) (E : XK) (r : Result) (s' : Shared) : Prop :=
  match r with
  | .ok (.ret u) => CE outer P w H s Q u s'
  | .ok _ => False
  | .error e => CX outer H s E e s'
structure FnOk (P : Program) (w : World) (K : PySem.W.Frag) (mg : Str → Option Value) (base : Heap) (CX : CXT) (k : Nat) (f : Addr) (fd : FuncData) (ps : List Str) (sp : Sp) : Prop where
  len : ∀ vs H Q E, sp vs H Q E → vs.length = ps.length
  run : ∀ (A : Around) (outer : List Env) (s : Shared) (H : Hp) (args : Args) (us : List Value) (vs : List V) (Q : VK) (E : XK), Room k A → Env0 P w K mg base A outer s H → BindsTo s fd args (ps.zip us) → Vals vs us → sp vs H Q E →
    codeAny (model P w) A (.call (.ref f) args) (CR CX outer P w H s Q E) s
theorem FnOk.mono {P : Program} {w : World} {K : PySem.W.Frag} {mg : Str → Option Value} {base : Heap} {CX : CXT} {j k : Nat} {f : Addr} {fd : FuncData} {ps : List Str} {sp : Sp} (F : FnOk P w K mg base CX j f fd ps sp) (h : j ≤ k) :
    FnOk P w K mg base CX k f fd ps sp := ⟨F.len, fun A outer s H args us vs Q E hr => F.run A outer s H args us vs Q E (hr.mono h)⟩
/-- a weaker promise -/
theorem FnOk.imp {P : Program} {w : World} {K : PySem.W.Frag} {mg : Str → Option Value} {base : Heap} {CX : CXT} {k : Nat} {f : Addr} {fd : FuncData} {ps : List Str} {sp sp' : Sp} (F : FnOk P w K mg base CX k f fd ps sp)
    (h : ∀ vs H Q E, sp' vs H Q E → sp vs H Q E) : FnOk P w K mg base CX k f fd ps sp' :=
  ⟨fun vs H Q E q => F.len vs H Q E (h _ _ _ _ q), fun A outer s H args us vs Q E hr he hb hv hs => F.run A outer s H args us vs Q E hr he hb hv (h _ _ _ _ hs)⟩

theorem Env0.make {P : Program} {w : World} {K : PySem.W.Frag} {mg : Str → Option Value} {base : Heap} {A : Around} {outer : List Env} {s : Shared} {H : Hp} (e : Env0 P w K mg base A outer s H) (C : Addr) (us : List Value) (kw : List (Str × Value)) :
    Env0 P w K mg base (A.under (.builtin "type.__call__" ⟨.ref C :: us, kw⟩)) outer s H := ⟨by first | exact e.frames | (simpa [Around.under, Code.envs, Code.isFrame, pushEnvs] using e.frames), e.mod, e.bs, e.bsz, e.funs, e.frf, e.hok, e.bare⟩
theorem Env0.in1 {P : Program} {w : World} {K : PySem.W.Frag} {mg : Str → Option Value} {base : Heap} {A : Around} {outer : List Env} {s : Shared} {H : Hp} (e : Env0 P w K mg base A outer s H) :
    Env0 P w K mg base A.in1 outer s H := ⟨e.frames, e.mod, e.bs, e.bsz, e.funs, e.frf, e.hok, e.bare⟩

section
variable {X : Cx} {pins : List (Addr × Obj)} {σ : St} {H : Hp} {s s' : Shared}
/-- from a body: what a callee wants -/
theorem Inv.env0 (I : Inv X pins σ H s) : Env0 X.prog X.w X.K X.mg X.base X.A X.stack s H :=
  ⟨I.ok.frames, I.ok.mod, I.bs, Nat.le_trans I.ok.bsz I.sz, I.stack, I.stkFree, I.hok, I.bare⟩
/-- behind a call -/
theorem Inv.after {Q : VK} {u : Value} (I : Inv X pins σ H s) (h : CE X.stack X.prog X.w H s Q u s') : EP X pins σ Q u s' := by
  obtain ⟨v, H', os, bare, un, hok, r, q⟩ := h
  obtain ⟨hh, g, d, t, os'⟩ := s'
  obtain rfl : os' = s.os := os
  exact ⟨v, H', I.call (h' := hh) (g' := g) (d' := d) (t' := t) (ch := []) un hok bare (fun b z => absurd z (by simp)), r, q⟩
end

/-! ### calls -/
/-- f(..): the written arguments, then the defaults dvs; E: what is wanted of an exception -/
noncomputable def tCall (sp : Sp) (dvs : List V) (E : XK) (t : TA) : TE := fun σ H Q => t σ H fun vs H1 => sp (vs ++ dvs) H1 Q E
/-- o.m(..) of an instance of the class at C -/
noncomputable def tMeth (C : Addr) (m : Str) (sp : Sp) (dvs : List V) (E : XK) (ta : TE) (t : TA) : TE := fun σ H Q => ta σ H fun x H1 => ∃ a dx fs, x = .ref a ∧ H1 a = some (.ins C dx fs) ∧ fs.lookup m = none ∧
  t σ H1 fun vs H2 => sp (x :: (vs ++ dvs)) H2 Q E
/-- C(..): a new instance and its dict, then __init__ -/
noncomputable def tMake (C : Addr) (sp : Sp) (dvs : List V) (E : XK) (t : TA) : TE := fun σ H Q => t σ H fun vs H1 => ∀ x dx, H1 x = none → H1 dx = none → dx ≠ x →
  sp (.ref x :: (vs ++ dvs)) (upd (upd H1 dx (.own x)) x (.ins C dx [])) (fun v H2 => v = .non ∧ Q (.ref x) H2) E

/-- how the parameters are bound: us the positional arguments, kw the keywords' values by name, ds the defaults that fill up -/
noncomputable def Binds (K : PySem.W.Frag) (fd : FuncData) (ps : List Str) (ds : List Value) : Prop :=
  ∀ (s : Shared) (us : List Value), K.In s.heap → (us ++ ds).length = ps.length → BindsTo s fd ⟨us, []⟩ (ps.zip (us ++ ds))
/-- every parameter is given -/
theorem Binds.all {K : PySem.W.Frag} {fd : FuncData} {ps : List Str} (h : ∀ us : List Value, us.length = ps.length → bindArgs fd ⟨us, []⟩ = pure (ps.zip us)) : Binds K fd ps [] := fun s us _ hl => by
  rw [List.append_nil] at hl ⊢
  exact .of_eq (h us hl)

/-- an exception of a callee reaches what this body wants of exceptions -/
noncomputable def Passes (CX : CXT) (X : Cx) (E : XK) : Prop := ∀ (pins : List (Addr × Obj)) (σ : St) (H : Hp) (s : Shared) (e : Value) (s' : Shared), Inv X pins σ H s → CX X.stack H s E e s' → X.xe e s'

section
variable {X : Cx} {CX : CXT} {k : Nat} {f C : Addr} {fd : FuncData} {ps : List Str} {sp : Sp} {dvs : List V} {ds : List Value} {E : XK} {x m : Str} {p pos apos : Pos} {e o : Expr} {es : List Expr} {ta : TE} {t : TA}

/-- the callee runs -/
theorem run_fn {pins : List (Addr × Obj)} {σ : St} {H : Hp} {s : Shared} {Q : VK} {us : List Value} {vs : List V} (F : FnOk X.prog X.w X.K X.mg X.base CX k f fd ps sp) (hr : Room k X.A) (hb : Binds X.K fd ps ds) (hd : Vals dvs ds) (hx : Passes CX X E)
    (I : Inv X pins σ H s) (r : Vals vs us) (h : sp (vs ++ dvs) H Q E) : wpAny (model X.prog X.w) X.A (call (.ref f) us) (EP X pins σ Q) X.xe s := by
  have r2 : Vals (vs ++ dvs) (us ++ ds) := r.append hd
  have hl : (us ++ ds).length = ps.length := by rw [← r2.length]; exact F.len _ _ _ _ h
  refine wpAny_call (codeAny_mono (F.run X.A X.stack s H ⟨us, []⟩ (us ++ ds) (vs ++ dvs) Q E hr I.env0 (hb s us I.kIn hl) r2 h) fun r s' hq => ?_)
  cases r with
  | error e => exact hx pins σ H s e s' I hq
  | ok fl =>
    cases fl with
    | ret u => exact I.after hq
    | next => exact False.elim hq
    | brk => exact False.elim hq
    | cont => exact False.elim hq

theorem pe_call (F : FnOk X.prog X.w X.K X.mg X.base CX k f fd ps sp) (hr : Room k X.A) (hg : Gl X x) (hm : X.mg x = some (.ref f)) (hk : PySem.W.keepIn X.K (.ref f) = true) (hb : Binds X.K fd ps ds) (hd : Vals dvs ds) (hx : Passes CX X E)
    (ha : PA X (e :: es) t) (hdb : (x == ("__debug__" : Str)) = false := by decide) (he : starEach (e :: es) X.env = (false, eval e X.env) :: starEach es X.env := by rfl) (hpl : (backTo pos (starEach es X.env)).any (·.1) = false := by rfl) :
    PE X (.Call (.Name x p) (e :: es) [] pos) (tCall sp dvs E t) := by
  intro pins s σ H Q I h
  refine wpAny_Call_Name_kw (ld_glob I hg hm ?_ hdb)
  refine PySem.W.callWith_K (h₀ := X.base) I.ok.mod.kin hk (thn (ha pos pins s σ H _ I h) fun us s1 ⟨vs, H1, I1, r, q⟩ => ⟨I1.kIn, ?_⟩) he hpl
  exact run_fn F hr hb hd hx I1 r q
/-- o.m(e, ..) -/
theorem pe_meth {pl : Sem Bool} (he : PE X o ta) (c : Cls X.K C) (hm : Meth X.K C m f) (F : FnOk X.prog X.w X.K X.mg X.base CX k f fd ps sp) (hr : Room k X.A) (hb : Binds X.K fd ps ds) (hd : Vals dvs ds) (hx : Passes CX X E) (ha : PA X (e :: es) t)
    (hst : starEach (e :: es) X.env = (false, eval e X.env) :: starEach es X.env := by rfl) (hpl : (backTo pos (starEach es X.env)).any (·.1) = false := by rfl)
    (ht : eval (.Call (.Attribute o m apos) (e :: es) [] pos) X.env = (do
      let ov ← eval o X.env
      standAt apos.atName
      let (f, first) ← holding [ov] (getMethod ov m pl)
      callWith pos f first (backTo pos (starEach (e :: es) X.env)) (backToKw pos (keywordEach [] X.env))) := by rfl) :
    PE X (.Call (.Attribute o m apos) (e :: es) [] pos) (tMeth C m sp dvs E ta t) := by
  intro pins s σ H Q I h
  refine PySem.W.methodCall_KW (pl := pl) (thn (he pins s σ H _ I h) fun u s1 ⟨x, H1, I1, rx, a, dx, fs, ex, ea, l, q⟩ => ?_) ht
  subst ex
  obtain rfl : u = Value.ref a := rx
  refine getmeth_ok I1 ea c hm l ?_
  refine PySem.W.callWith_K (first := [.ref a]) (h₀ := X.base) I.ok.mod.kin hm.kp (thn (ha pos pins s1 σ H1 _ I1 q) fun us s2 ⟨vs, H2, I2, r, q2⟩ => ⟨I2.kIn, ?_⟩) hst hpl
  exact run_fn (us := .ref a :: us) (vs := .ref a :: vs) F hr hb hd hx I2 (.cons rfl r) q2
/-- o.m() -/
theorem pe_meth0 {pl : Sem Bool} (he : PE X o ta) (c : Cls X.K C) (hm : Meth X.K C m f) (F : FnOk X.prog X.w X.K X.mg X.base CX k f fd ps sp) (hr : Room k X.A) (hb : Binds X.K fd ps ds) (hd : Vals dvs ds) (hx : Passes CX X E)
    (ht : eval (.Call (.Attribute o m apos) [] [] pos) X.env = (do
      let ov ← eval o X.env
      standAt apos.atName
      let (f, first) ← holding [ov] (getMethod ov m pl)
      callWith pos f first (backTo pos (starEach [] X.env)) (backToKw pos (keywordEach [] X.env))) := by rfl) :
    PE X (.Call (.Attribute o m apos) [] [] pos) (tMeth C m sp dvs E ta tNil) := by
  intro pins s σ H Q I h
  refine PySem.W.methodCall_KW (pl := pl) (thn (he pins s σ H _ I h) fun u s1 ⟨x, H1, I1, rx, a, dx, fs, ex, ea, l, q⟩ => ?_) ht
  subst ex
  obtain rfl : u = Value.ref a := rx
  refine getmeth_ok I1 ea c hm l ?_
  exact PySem.W.callWith_K0 (first := [.ref a]) I1.kIn hm.kp (run_fn (us := [.ref a]) (vs := [.ref a]) F hr hb hd hx I1 (.cons rfl .nil) q)

/-- what a class must have to be made -/
structure Mk (K : PySem.W.Frag) (C f : Addr) : Prop where
  makes : PySem.W.makesIn K C = true
  init : PySem.W.findIn K (.ref C) "__init__" = some (some (.ref f))
  fn : PySem.W.isFn K (.ref f) = true
  kp : PySem.W.keepIn K (.ref C) = true

theorem run_make {pins : List (Addr × Obj)} {σ : St} {H : Hp} {s : Shared} {Q : VK} {us : List Value} {vs : List V} (M : Mk X.K C f) (F : FnOk X.prog X.w X.K X.mg X.base CX k f fd ps sp) (hr : Room (k + 1) X.A) (hb : Binds X.K fd ps ds) (hd : Vals dvs ds)
    (hx : Passes CX X E) (I : Inv X pins σ H s) (r : Vals vs us)
    (h : ∀ x dx, H x = none → H dx = none → dx ≠ x → sp (.ref x :: (vs ++ dvs)) (upd (upd H dx (.own x)) x (.ins C dx [])) (fun v H2 => v = .non ∧ Q (.ref x) H2) E) :
    wpAny (model X.prog X.w) X.A (call (.ref C) us) (EP X pins σ Q) X.xe s := by
  have hq := h (s.heap.objs.size + 1) s.heap.objs.size (I.hok.fresh (Nat.le_succ _)) (I.hok.fresh (Nat.le_refl _)) (Nat.ne_of_lt (Nat.lt_succ_self _))
  have I2 := Inv.made (C := C) I
  have r2 : Vals (V.ref (s.heap.objs.size + 1) :: (vs ++ dvs)) (Value.ref (s.heap.objs.size + 1) :: (us ++ ds)) := .cons rfl (r.append hd)
  have hl : (Value.ref (s.heap.objs.size + 1) :: us ++ ds).length = ps.length := by
    have e := r2.length
    rw [F.len _ _ _ _ hq] at e
    exact e.symm
  refine wpAny_call (make_map (f := f) I.kIn M.makes M.init (beq_iff_eq.mp M.fn) (codeAny_mono (F.run _ X.stack _ _ ⟨Value.ref (s.heap.objs.size + 1) :: us, []⟩ (Value.ref (s.heap.objs.size + 1) :: (us ++ ds)) _ _ E (hr.make C us [])
    (I2.env0.make C us []) (hb _ (Value.ref (s.heap.objs.size + 1) :: us) I2.kIn hl) r2 hq) fun r s' hq' => ?_))
  cases r with
  | error e => exact hx pins σ _ _ e s' I2 hq'
  | ok fl =>
    cases fl with
    | ret u =>
      obtain ⟨v, H', I3, rv, ev, q3⟩ := I2.after hq'
      subst ev
      exact ⟨rv, ⟨V.ref (s.heap.objs.size + 1), H', I3, rfl, q3⟩⟩
    | next => exact False.elim hq'
    | brk => exact False.elim hq'
    | cont => exact False.elim hq'
theorem pe_make0 (M : Mk X.K C f) (F : FnOk X.prog X.w X.K X.mg X.base CX k f fd ps sp) (hr : Room (k + 1) X.A) (hg : Gl X x) (hm : X.mg x = some (.ref C)) (hb : Binds X.K fd ps ds) (hd : Vals dvs ds) (hx : Passes CX X E)
    (hdb : (x == ("__debug__" : Str)) = false := by decide) : PE X (.Call (.Name x p) [] [] pos) (tMake C sp dvs E tNil) := by
  intro pins s σ H Q I h
  refine wpAny_Call_Name_kw (ld_glob I hg hm ?_ hdb)
  exact PySem.W.callWith_K0 I.kIn M.kp (run_make (us := []) M F hr hb hd hx I .nil h)
end

/-! ### keywords -/
/-- the values of the keywords, from the left -/
noncomputable def PK (X : Cx) (kws : List Keyword) (t : TA) : Prop :=
  ∀ (pos : Pos) (pins : List (Addr × Obj)) (s : Shared) (σ : St) (H : Hp) (Q : List V → Hp → Prop), Inv X pins σ H s → t σ H Q → wpAny (model X.prog X.w) X.A (evalAll ((backToKw pos (keywordEach kws X.env)).map (·.2))) (AP X pins σ Q) X.xe s
section
variable {X : Cx} {CX : CXT} {k : Nat} {f C : Addr} {fd : FuncData} {ps ks : List Str} {sp : Sp} {E : XK} {x m : Str} {p pos apos kpos : Pos} {e o : Expr} {es : List Expr} {kws : List Keyword} {te ta : TE} {t tk : TA} {nm : Option Str}
/-- how a call with keywords binds: g puts the positional values us and the keywords' values ws (names ks) in the parameters' order, defaults among them -/
structure KBinds (K : PySem.W.Frag) (fd : FuncData) (ps ks : List Str) (g : List Value → List Value → List Value) (gV : List V → List V → List V) : Prop where
  to : ∀ (s : Shared) (us ws : List Value), K.In s.heap → (g us ws).length = ps.length → BindsTo s fd ⟨us, ks.zip ws⟩ (ps.zip (g us ws))
  rel : ∀ {vs : List V} {us : List Value} {zs : List V} {ws : List Value}, Vals vs us → Vals zs ws → Vals (gV vs zs) (g us ws)
noncomputable def tCallK (sp : Sp) (gV : List V → List V → List V) (E : XK) (t tk : TA) : TE := fun σ H Q => t σ H fun vs H1 => tk σ H1 fun zs H2 => sp (gV vs zs) H2 Q E
variable {g : List Value → List Value → List Value} {gV : List V → List V → List V}
end

/-! ### a def's body keeps its promise -/
/-- names: the parameters first -/
structure FnScope (N P : List Str) (sc : Scope) : Prop where
  kind : sc.kind = .function
  co : sc.isCoroutine = false
  gen : sc.isGenerator = false
  nd : N.Nodup
  pre : N.take P.length = P
  par : ∀ x ∈ P, sc.names.lookup x = some .local ∨ sc.names.lookup x = some .cell
  nofree : ∀ y ∈ sc.names, y.2 ≠ .free

theorem bindL_out {kindOf : Str → Option NameKind} {x : Str} : ∀ {binds : List (Str × Value)} {m : Str → Option Value}, (∀ v, (x, v) ∉ binds) → bindL kindOf binds m x = m x
  | [], _, _ => rfl
  | (n, v) :: r, m, h => by
    unfold bindL
    rw [bindL_out fun w hw => h w (List.mem_cons_of_mem _ hw)]
    split
    · have : x ≠ n := by rintro rfl; exact h v List.mem_cons_self
      simp [this]
    · rfl
theorem bindC_out {kindOf : Str → Option NameKind} {x : Str} : ∀ {binds : List (Str × Value)} {m : Str → Option Value}, (∀ v, (x, v) ∉ binds) → bindC kindOf binds m x = m x
  | [], _, _ => rfl
  | (n, v) :: r, m, h => by
    unfold bindC
    rw [bindC_out fun w hw => h w (List.mem_cons_of_mem _ hw)]
    split
    · rfl
    · have : x ≠ n := by rintro rfl; exact h v List.mem_cons_self
      simp [this]
theorem bindL_get {kindOf : Str → Option NameKind} {x : Str} {v : Value} : ∀ {P : List Str} {vs : List Value} {i : Nat} {m : Str → Option Value}, P.Nodup → P[i]? = some x → vs[i]? = some v → kindOf x = some .local →
    bindL kindOf (P.zip vs) m x = some v
  | [], _, _, _, _, h, _, _ => by simp at h
  | _ :: _, [], _, _, _, _, h, _ => by simp at h
  | p :: P, w :: vs, 0, m, nd, h1, h2, hk => by
    simp at h1 h2; subst h1; subst h2
    show bindL kindOf ((p, w) :: P.zip vs) m p = _
    unfold bindL
    rw [bindL_out fun v hv => (List.nodup_cons.mp nd).1 (List.of_mem_zip hv).1, if_pos hk]
    simp
  | p :: P, w :: vs, i + 1, m, nd, h1, h2, hk => by
    show bindL kindOf ((p, w) :: P.zip vs) m x = _
    unfold bindL
    exact bindL_get (i := i) (List.nodup_cons.mp nd).2 (by simpa using h1) (by simpa using h2) hk
theorem bindC_get {kindOf : Str → Option NameKind} {x : Str} {v : Value} : ∀ {P : List Str} {vs : List Value} {i : Nat} {m : Str → Option Value}, P.Nodup → P[i]? = some x → vs[i]? = some v → kindOf x ≠ some .local →
    bindC kindOf (P.zip vs) m x = some v
  | [], _, _, _, _, h, _, _ => by simp at h
  | _ :: _, [], _, _, _, _, h, _ => by simp at h
  | p :: P, w :: vs, 0, m, nd, h1, h2, hk => by
    simp at h1 h2; subst h1; subst h2
    show bindC kindOf ((p, w) :: P.zip vs) m p = _
    unfold bindC
    rw [bindC_out fun v hv => (List.nodup_cons.mp nd).1 (List.of_mem_zip hv).1, if_neg hk]
    simp
  | p :: P, w :: vs, i + 1, m, nd, h1, h2, hk => by
    show bindC kindOf ((p, w) :: P.zip vs) m x = _
    unfold bindC
    exact bindC_get (i := i) (List.nodup_cons.mp nd).2 (by simpa using h1) (by simpa using h2) hk

/-- the names' values at the entry -/
noncomputable def start (N : List Str) (vs : List V) : St := vs.map some ++ List.replicate (N.length - vs.length) none

/-- the context of a def's body, at its entry; an exception leaves the frame, then lies as CX says -/
noncomputable def cxOf (CX : CXT) (P : Program) (w : World) (K : PySem.W.Frag) (mg : Str → Option Value) (base : Heap) (N : List Str) (qual : Str) (scope : Scope) (f : Addr) (cd : Value) (A : Around) (outer : List Env) (s : Shared) (H : Hp) (E : XK) : Cx where
  prog := P
  w := w
  K := K
  mg := mg
  base := base
  A := A.deeper (envOfC qual scope s.heap.objs.size f cd)
  N := N
  s₀ := s
  H₀ := H
  env := envOfC qual scope s.heap.objs.size f cd
  outer := outer
  stack := envOfC qual scope s.heap.objs.size f cd :: outer
  ex := []
  calm := true
  fn := fun _ => true
  pn := []
  xe := fun e s' => wpAny (model P w) (A.deeper (envOfC qual scope s.heap.objs.size f cd)) (leaving (envOfC qual scope s.heap.objs.size f cd) e) (fun _ s'' => CX outer H s E e s'') (fun e' s'' => CX outer H s E e' s'') s'

theorem cell_has {sc : Scope} {n : Nat} {x : Str} (h : sc.names.lookup x = some .cell) : ∃ c, (cellsFrom n sc.names []).lookup x = some c := by
  have q := PySem.W.cellsFrom_some sc.names n [] (.inl h)
  exact Option.isSome_iff_exists.mp q

theorem inv_start {CX : CXT} {P : Program} {w : World} {K : PySem.W.Frag} {mg : Str → Option Value} {base : Heap} {N ps : List Str} {qual : Str} {scope : Scope} {f : Addr} {cd : Value} {A : Around} {outer : List Env} {s s1 : Shared} {H : Hp} {E : XK} {us : List Value} {vs : List V}
    (S : FnScope N ps scope) (hd : A.handled = none) (e0 : Env0 P w K mg base A outer s H) (hl : vs.length = ps.length) (r : Vals vs us)
    (x : InCallC s s.heap.objs.size (bindL (envOfC qual scope s.heap.objs.size f cd).kindOf (ps.zip us) fun _ => none) (cellsFrom (s.heap.objs.size + 1) scope.names []) (bindC (envOfC qual scope s.heap.objs.size f cd).kindOf (ps.zip us) fun _ => none) s1) :
    Inv (cxOf CX P w K mg base N qual scope f cd A outer s H E) [] (start N vs) H s1 := by
  have hpl : ps.length ≤ N.length := by have := congrArg List.length S.pre; rw [List.length_take] at this; omega
  obtain ⟨h1, tk, rfl, hk⟩ := x.done
  have noA : ∀ b : Addr, b ∉ (cxOf CX P w K mg base N qual scope f cd A outer s H E).ex := fun b z => absurd (show b ∈ ([] : List Addr) from z) (by simp)
  refine ⟨⟨e0.mod, S.kind, rfl, rfl, Nat.le_refl _, fun y z c h1 h2 => ?_, fun y hy => ?_, fun y c _ h => ?_, fun _ => hd, Around.frames_deeper e0.frames, .inr ⟨rfl, rfl⟩, fun b z => absurd z (noA b), e0.bs, e0.bsz, fun b _ _ => noA b, fun b z => absurd z (noA b), e0.funs, e0.frf⟩,
    rfl, e0.bare, Un.kept hk, ⟨_, x.toInCall.ns, fun i y v h1 h2 h3 => ?_⟩, fun y c h => ⟨_, x.cell y c h⟩, e0.hok.fresh (Nat.le_refl _), fun y c h => ?_, fun p hp => absurd (show p ∈ ([] : List (Addr × Obj)) from hp) (by simp), e0.hok.kept hk, ?_⟩
  · exact name_of_addr x.apart (PySem.mem_of_lookup h1) (PySem.mem_of_lookup h2)
  · have hy : scope.names.lookup y = some .cell ∨ scope.names.lookup y = some .free := hy
    rcases hy with hy | hy
    · exact cell_has hy
    · exact absurd rfl (S.nofree _ (PySem.mem_of_lookup hy))
  · exact Nat.le_of_lt (x.above y c (PySem.mem_of_lookup h))
  · have hi : i < vs.length := by
      unfold start at h2
      by_cases hi : i < vs.length
      · exact hi
      · rw [List.getElem?_append_right (by simpa using hi)] at h2
        rw [List.getElem?_replicate] at h2
        split at h2 <;> cases h2
    have ha : vs[i]? = some v := by
      unfold start at h2
      rw [List.getElem?_append_left (by simpa using hi), List.getElem?_map] at h2
      cases e : vs[i]? with
      | none => rw [e] at h2; cases h2
      | some a => rw [e] at h2; cases h2; rfl
    obtain ⟨u, hu, rv⟩ := r.get ha
    have hp : ps[i]? = some y := by
      rw [← S.pre, List.getElem?_take_of_lt (by omega)]; exact h1
    have ndP : ps.Nodup := by rw [← S.pre]; exact S.nd.sublist (List.take_sublist _ _)
    refine ⟨u, rv, ?_⟩
    rcases S.par y (List.mem_of_getElem? hp) with k | k
    · exact .inl ⟨k, bindL_get ndP hp hu k⟩
    · obtain ⟨c, e⟩ := cell_has (n := s.heap.objs.size + 1) k
      refine .inr ⟨.inl k, c, e, ?_⟩
      have q := x.cell y c e
      rw [bindC_get ndP hp hu (by show scope.names.lookup y ≠ _; rw [k]; decide)] at q
      exact q
  · exact e0.hok.fresh (Nat.le_of_lt (x.above y c (PySem.mem_of_lookup h)))
  · unfold start
    show _ = N.length
    rw [List.length_append, List.length_map, List.length_replicate]
    omega

/-- THE RULE: a def (or a method) of the text, by its body. The body's reading t is chosen for each entry; it is run at the parameters' values -/
theorem fn_of {CX : CXT} {P : Program} {w : World} {K : PySem.W.Frag} {mg : Str → Option Value} {base : Heap} {k : Nat} {f : Addr} {name qual : Str} {params : Arguments} {body : List Stmt} {scope : Scope} {dV kV doc pm cdv ct oc : Value} {an od : Option Addr}
    {osl : Array (Option Value)} {N ps : List Str} {sp : Sp} (lk : K.lookup f = some ⟨oc, od, .func (PySem.W.fnOf name qual params body scope dV kV doc pm an cdv ct), osl⟩) (hcd : PySem.W.codeIn K cdv qual = true) (S : FnScope N ps scope)
    (len : ∀ vs H Q E, sp vs H Q E → vs.length = ps.length)
    (hbody : ∀ (A : Around) (outer : List Env) (s : Shared) (H : Hp) (vs : List V) (Q : VK) (E : XK), Room k (A.deeper (envOfC qual scope s.heap.objs.size f cdv)) → sp vs H Q E →
      ∃ t, PSs (cxOf CX P w K mg base N qual scope f cdv A outer s H E) body t ∧ t { nx := fun _ H' => Q .non H', rt := Q } (start N vs) H) :
    FnOk P w K mg base CX (k + 1) f (PySem.W.fnOf name qual params body scope dV kV doc pm an cdv ct) ps sp := by
  refine ⟨len, fun A outer s H args us vs Q E hr e0 hb r hsp => ?_⟩
  have hl := len _ _ _ _ hsp
  have KX : K.In s.heap := e0.mod.kin.keeps fun b o e => (e0.bs b o e).1
  have lim : s.heap.NoLimit := e0.mod.nolimit.keeps fun b o e => (e0.bs b o e).1
  have hkind : ∀ y ∈ ps.zip us, scope.names.lookup y.1 = some .local ∨ (scope.names.lookup y.1 = some .cell ∧ ((cellsFrom (s.heap.objs.size + 1) scope.names []).lookup y.1).isSome = true) := fun ⟨n, v⟩ hy => by
    rcases S.par n (List.of_mem_zip hy).1 with q | q
    · exact .inl q
    · exact .inr ⟨q, PySem.W.cellsFrom_some _ _ _ (.inl q)⟩
  refine codeAny_call_function hr.depth (KX _ _ lk) rfl S.co S.gen rfl (PySem.W.codeRec_of KX hcd) (hb _ _ _ _ ?_)
  refine wpAny_newFunctionEnv_cells S.kind hkind fun env he s1 x => ?_
  subst he
  refine ⟨lim.keeps x.toInCall.keep, codeAny_func ?_⟩
  obtain ⟨t, ht, hq⟩ := hbody A outer s H vs Q E (hr.deeper _) hsp
  have I : Inv (cxOf CX P w K mg base N qual scope f cdv A outer s H E) [] (start N vs) H s1 := inv_start S hr.hd e0 hl r x
  refine wpAny_mono (ht [] s1 (start N vs) H _ I hq) (fun fl s' hs => ?_) fun e s' hs => hs
  have fin : ∀ {σ' : St} {H' : Hp} {v : V} {u : Value}, Inv (cxOf CX P w K mg base N qual scope f cdv A outer s H E) [] σ' H' s' → RelV v u → Q v H' → CE outer P w H s Q u s' :=
    fun {σ' H' v u} J rv q => ⟨v, H', J.os, J.bare, J.base, J.hok, rv, q⟩
  cases fl with
  | ret u =>
    obtain ⟨v, σ', H', J, rv, q⟩ := hs
    exact fin J rv q
  | next =>
    obtain ⟨σ', H', J, q⟩ := hs
    exact fin (v := V.non) (u := Value.none) J rfl q
  | brk =>
    obtain ⟨_, _, _, q⟩ := hs
    exact False.elim q
  | cont =>
    obtain ⟨_, _, _, q⟩ := hs
    exact False.elim q
end L2

namespace L2
open PySem PySem.Spec PyProof.Rows
section
variable {X : Cx} {x : Str} {p pos : Pos} {e : Expr} {es : List Expr} {t : TA} {id T : String} {r : List V → Hp → VK → Prop}

noncomputable def tCB (r : List V → Hp → VK → Prop) (t : TA) : TE := fun σ H Q => t σ H fun vs H1 => r vs H1 Q
/-- f(e, ..), f a built-in function -/
theorem pe_callB (hc : CallR X (.builtin id) r) (hg : Gl X x) (hm : X.mg x = none) (hv : bootBuiltins x = some (.builtin id)) (ha : PA X (e :: es) t) (hn : x ≠ "__name__" := by decide) (hdb : (x == ("__debug__" : Str)) = false := by decide)
    (he : starEach (e :: es) X.env = (false, eval e X.env) :: starEach es X.env := by rfl) (hpl : (backTo pos (starEach es X.env)).any (·.1) = false := by rfl) : PE X (.Call (.Name x p) (e :: es) [] pos) (tCB r t) := by
  intro pins s σ H Q I h
  refine wpAny_Call_Name_kw (ld_blt I hg hm hv ?_ hn hdb)
  exact PyProof.Rows.callWith_builtin1 (thn (ha pos pins s σ H _ I h) fun us s1 ⟨vs, H1, I1, r1, q1⟩ => hc pins s1 σ H1 vs us Q I1 r1 q1) he hpl
/-- T(e, ..), T a built-in type -/
theorem pe_callTy (hc : CallR X (.type T) r) (hg : Gl X x) (hm : X.mg x = none) (hv : bootBuiltins x = some (.type T)) (ha : PA X (e :: es) t) (hn : x ≠ "__name__" := by decide) (hdb : (x == ("__debug__" : Str)) = false := by decide)
    (he : starEach (e :: es) X.env = (false, eval e X.env) :: starEach es X.env := by rfl) (hpl : (backTo pos (starEach es X.env)).any (·.1) = false := by rfl) : PE X (.Call (.Name x p) (e :: es) [] pos) (tCB r t) := by
  intro pins s σ H Q I h
  refine wpAny_Call_Name_kw (ld_blt I hg hm hv ?_ hn hdb)
  exact PyProof.Rows.callWith_type1 (thn (ha pos pins s σ H _ I h) fun us s1 ⟨vs, H1, I1, r1, q1⟩ => hc pins s1 σ H1 vs us Q I1 r1 q1) he hpl
end
end L2

namespace HT
open PySem PyProof.Rows

/-- t < u of tuples of ints -/
noncomputable def lexLt : List Int → List Int → Bool
  | [], [] => false
  | [], _ :: _ => true
  | _ :: _, [] => false
  | x :: xs, y :: ys => if x = y then lexLt xs ys else decide (x < y)
section
open PySem.SeqAt
open PySem.AutoSeq1 (wpAny_loadPart')
open PySem.MeetsSeq PySem.MeetsSeq2 PySem.MeetsSeq3

end

section
variable {prog : Program} {w : World} {A : Around} {E : Value → Shared → Prop} {s : Shared}

/-- t + u, t not empty -/
theorem cat_tup {t b : Addr} {vs ws : List Value} {Q : Value → Shared → Prop} (ht : IsTup s.heap t vs.toArray) (hb : IsTup s.heap b ws.toArray) (hv : vs ≠ [])
    (h1 : ws = [] → Q (.ref t) s) (h2 : ws ≠ [] → Q (.ref s.heap.objs.size) { s with heap := s.heap.push { cls := .type "tuple", data := .seq (vs ++ ws).toArray } })
    (hsz : vs.length + ws.length ≤ sizeLine) : wpAny (model prog w) A (binaryOp .Add (.ref t) (.ref b)) Q E s := by
  obtain ⟨⟨cls, dd, data, sl⟩, ho, hc, n, hd⟩ := id ht
  obtain ⟨⟨cls2, dd2, data2, sl2⟩, ho2, hc2, n2, hd2⟩ := id hb
  simp only at hc hd hc2 hd2
  subst hc hd hc2 hd2
  have e : vs.toArray ++ ws.toArray = (vs ++ ws).toArray := by simp
  by_cases hw : ws = []
  · exact concat_meets ⟨_, ho, rfl⟩ ⟨_, ho2, rfl⟩ noFill_tuple_add seq_tuple_add PySem.F.slot_tuple_add PySem.F.entry_tuple_add (PySem.F.args_tuple_add_2 _ _)
      (tuple_addW1 t b vs.toArray ws.toArray n n2 dd dd2 sl sl2 (by simpa using hv) (by simp [hw])) ⟨ho, ho2, h1 hw⟩
  · refine concat_meets ⟨_, ho, rfl⟩ ⟨_, ho2, rfl⟩ noFill_tuple_add seq_tuple_add PySem.F.slot_tuple_add PySem.F.entry_tuple_add (PySem.F.args_tuple_add_2 _ _)
      (tuple_addW2 t b vs.toArray ws.toArray n n2 dd dd2 sl sl2 (by simpa using hv) (by simpa using hw) (by rw [List.size_toArray, List.size_toArray]; exact hsz)) ⟨ho, ho2, ?_⟩
    rw [e]
    exact h2 hw

/-! ### t[a:b], not the whole -/
/-- a slice's bound as a place among n (d where it is left out) -/
noncomputable def sIx (n d : Nat) : Option Int → Nat
  | none => d
  | some v => if v < 0 then (v + (n : Int)).toNat else min v.toNat n
theorem sIx_none (n d : Nat) : sIx n d none = d := rfl
theorem sIx_nat (n d k : Nat) : sIx n d (some (k : Int)) = min k n := by
  show (if (k : Int) < 0 then ((k : Int) + (n : Int)).toNat else min (k : Int).toNat n) = min k n
  rw [if_neg (by omega), Int.toNat_natCast]
end
end HT

namespace L2
open PySem PySem.Spec PyProof.Rows

/-! ### the parts of a slice -/
noncomputable abbrev TO := St → Hp → (Option Int → Hp → Prop) → Prop
/-- a slice's part (left out, or an int) -/
noncomputable def PO (X : Cx) (e : Option Expr) (t : TO) : Prop :=
  ∀ (pins : List (Addr × Obj)) (s : Shared) (σ : St) (H : Hp) (Q : Option Int → Hp → Prop), Inv X pins σ H s → t σ H Q →
    wpAny (model X.prog X.w) X.A (evalPart e X.env) (fun u s' => ∃ o H', Inv X pins σ H' s' ∧ IsPart u o ∧ Q o H') X.xe s
noncomputable def tNoPart : TO := fun _ H Q => Q none H
noncomputable def tPart (t : TE) : TO := fun σ H Q => t σ H fun x H1 => ∃ i, x = .int i ∧ Q (some i) H1

section
variable {X : Cx} {e : Expr} {te : TE} {lo hi : Option Expr} {tl th : TO} {pos p2 : Pos}

theorem po_none : PO X none tNoPart := by
  intro pins s σ H Q I h
  rw [evalPart_none]
  exact wpAny_pure ⟨none, H, I, .none, h⟩
theorem po_some (h : PE X e te) : PO X (some e) (tPart te) := by
  intro pins s σ H Q I hw
  rw [evalPart_some]
  refine thn (h pins s σ H _ I hw) fun u s1 ⟨x, H1, I1, r1, q1⟩ => ?_
  obtain ⟨i, rfl, q⟩ := q1
  obtain ⟨t, rfl⟩ := r1
  exact ⟨some i, H1, I1, .int i t, q⟩

/-- what a slice of a value is, by values: the slice object stands at sl -/
noncomputable def SlR (X : Cx) (r : V → Option Int → Option Int → Hp → VK → Prop) : Prop :=
  ∀ (pins : List (Addr × Obj)) (s : Shared) (σ : St) (H : Hp) (x : V) (v vl vu : Value) (lo hi : Option Int) (sl : Addr) (Q : VK), Inv X pins σ H s → RelV x v → s.heap.IsSliceOf sl vl vu .none → IsPart vl lo → IsPart vu hi → r x lo hi H Q →
    ∃ T id, typeLookup (.type T) "__getitem__" = pure (some (.builtin id)) ∧ s.TypeIs v T ∧ wpAny (model X.prog X.w) X.A (getItem v (.ref sl)) (EP X pins σ Q) X.xe s
theorem SlR.or {r r' : V → Option Int → Option Int → Hp → VK → Prop} (h : SlR X r) (h' : SlR X r') : SlR X (fun x lo hi H Q => r x lo hi H Q ∨ r' x lo hi H Q) := by
  intro pins s σ H x v vl vu lo hi sl Q I rx hs pl pu q
  rcases q with q | q
  · exact h pins s σ H x v vl vu lo hi sl Q I rx hs pl pu q
  · exact h' pins s σ H x v vl vu lo hi sl Q I rx hs pl pu q
noncomputable def tSl (r : V → Option Int → Option Int → Hp → VK → Prop) (te : TE) (tl th : TO) : TE := fun σ H Q => te σ H fun x H1 => tl σ H1 fun l H2 => th σ H2 fun u H3 => r x l u H3 Q
/-- a[lo:hi], any a -/
theorem pe_slice {r : V → Option Int → Option Int → Hp → VK → Prop} (hr : SlR X r) (he : PE X e te) (hl : PO X lo tl) (hu : PO X hi th) : PE X (.Subscript e (.Slice lo hi none p2) pos) (tSl r te tl th) := by
  intro pins s σ H Q I h
  refine Subscript_ (thn (he pins s σ H _ I h) fun v s1 ⟨x, H1, I1, r1, q1⟩ => ?_)
  refine wpAny_Slice (thn (hl pins s1 σ H1 _ I1 q1) fun vl s2 ⟨l, H2, I2, pl, q2⟩ => thn (hu pins s2 σ H2 _ I2 q2) fun vu s3 ⟨u, H3, I3, pu, q3⟩ => ?_)
  rw [evalPart_none]
  refine wpAny_pure ?_
  have I4 : Inv X pins σ H3 { s3 with heap := s3.heap.push { cls := .type "slice", data := .fields #[vl, vu, .none] } } := I3.kept (t' := s3.toks) fun b ob q => Heap.get?_push_of_some _ q
  obtain ⟨T, id, hT, ht, hg⟩ := hr pins { s3 with heap := s3.heap.push { cls := .type "slice", data := .fields #[vl, vu, .none] } } σ H3 x v vl vu l u s3.heap.objs.size Q I4 r1 (Heap.IsSliceOf.new ..) pl pu q3
  show wpAny (model X.prog X.w) X.A (subscriptTail e (.Slice lo hi none p2) v (.ref s3.heap.objs.size)) (EP X pins σ Q) X.xe { s3 with heap := s3.heap.push { cls := .type "slice", data := .fields #[vl, vu, .none] } }
  exact tail_any (ops := [.ref s3.heap.objs.size, v]) ht hT hg (by with_unfolding_all rfl)

/-- the items of xs[lo:hi] -/
noncomputable def cutV (xs : List V) (lo hi : Option Int) : List V := (xs.drop (HT.sIx xs.length 0 lo)).take (HT.sIx xs.length xs.length hi - HT.sIx xs.length 0 lo)
theorem cutV_length (xs : List V) (lo hi : Option Int) : (cutV xs lo hi).length ≤ xs.length := by
  unfold cutV
  rw [List.length_take, List.length_drop]
  omega
/-- t[lo:hi], not the whole of it (the whole would be t itself) -/
noncomputable def rSlT (K : PySem.W.Frag) : V → Option Int → Option Int → Hp → VK → Prop := fun x lo hi H Q => ∃ a xs, x = .ref a ∧ SqT K H a xs ∧
  ¬ (HT.sIx xs.length 0 lo = 0 ∧ HT.sIx xs.length xs.length hi = xs.length) ∧ ∀ p, H p = none → Q (.ref p) (upd H p (.tup (cutV xs lo hi)))
/-! ### t < u, t + u -/
noncomputable def rLtT (K : PySem.W.Frag) : R2 := fun x y H Q => ∃ a b ns ms, x = .ref a ∧ y = .ref b ∧ SqT K H a (ns.map V.int) ∧ SqT K H b (ms.map V.int) ∧ Q (.bl (HT.lexLt ns ms)) H
/-- t + u, t not empty: u empty gives t itself -/
noncomputable def rCatT (K : PySem.W.Frag) : R2 := fun x y H Q => ∃ a b xs ys, x = .ref a ∧ y = .ref b ∧ SqT K H a xs ∧ SqT K H b ys ∧ xs ≠ [] ∧ xs.length + ys.length ≤ sizeLine ∧
  (ys = [] → Q (.ref a) H) ∧ (ys ≠ [] → ∀ p, H p = none → Q (.ref p) (upd H p (.tup (xs ++ ys))))
theorem Vals.nil_iff {xs : List V} {us : List Value} (r : Vals xs us) : us = [] ↔ xs = [] := by
  cases r with
  | nil => simp
  | cons _ _ => simp
theorem op_catT : OpR X (binaryOp .Add) (rCatT X.K) := by
  intro pins s σ H x y v u Q I rx ry h
  obtain ⟨a, b, xs, ys, rfl, rfl, ha, hb, hx, hz, q1, q2⟩ := h
  cases rx
  cases ry
  obtain ⟨its, r1, p1, _⟩ := I.tuple ha
  obtain ⟨its2, r2, p2, _⟩ := I.tuple hb
  refine HT.cat_tup p1 p2 (fun z => hx (r1.nil_iff.mp z)) (fun z => ⟨.ref a, H, I, rfl, q1 (r2.nil_iff.mp z)⟩) (fun z => ?_) (by rw [← r1.length, ← r2.length]; exact hz)
  refine ⟨.ref s.heap.objs.size, _, I.laid (t' := s.toks) (o := .tup (xs ++ ys)) (fun b ob q => Heap.get?_push_of_some _ q) (Nat.le_refl _) ?_, rfl, q2 (fun w => z (r2.nil_iff.mpr w)) _ (I.hok.fresh (Nat.le_refl _))⟩
  exact ⟨by rw [List.length_append]; exact hz, _, r1.append r2, IsTup.new _ _⟩
end
end L2

namespace L2
open PySem PySem.Spec PyProof.Rows

/-! ### places -/
/-- the place that an index of any sign means -/
noncomputable def ixN (n : Nat) (i : Int) : Option Nat := if 0 ≤ i then (if i < n then some i.toNat else none) else if -(n : Int) ≤ i then some (i + n).toNat else none
noncomputable def atI {α : Type} (xs : List α) (i : Int) : Option α := (ixN xs.length i).bind fun j => xs[j]?
theorem ixN_seq {n : Nat} {i : Int} {j : Nat} (h : ixN n i = some j) : seqIndex? i n = some j ∧ j < n ∧ -(n : Int) ≤ i ∧ i < n := by
  unfold ixN at h
  by_cases h0 : 0 ≤ i
  · rw [if_pos h0] at h
    by_cases h1 : i < n
    · rw [if_pos h1] at h
      have e : i.toNat = j := Option.some.inj h
      exact ⟨by rw [seqIndex_of h0 h1, e], by omega, by omega, h1⟩
    · rw [if_neg h1] at h; cases h
  · rw [if_neg h0] at h
    by_cases h1 : -(n : Int) ≤ i
    · rw [if_pos h1] at h
      have e : (i + n).toNat = j := Option.some.inj h
      exact ⟨by rw [seqIndex_neg (by omega) h1, e], by omega, h1, by omega⟩
    · rw [if_neg h1] at h; cases h
theorem atI_get {α : Type} {xs : List α} {i : Int} {v : α} (h : atI xs i = some v) : ∃ j, seqIndex? i xs.length = some j ∧ xs[j]? = some v ∧ j < xs.length ∧ -(xs.length : Int) ≤ i ∧ i < xs.length := by
  unfold atI at h
  cases e : ixN xs.length i with
  | none => rw [e] at h; cases h
  | some j =>
    rw [e] at h
    obtain ⟨h1, h2, h3, h4⟩ := ixN_seq e
    exact ⟨j, h1, h, h2, h3, h4⟩
theorem atI_nat {α : Type} {xs : List α} {j : Nat} {v : α} (h : xs[j]? = some v) : atI xs (j : Int) = some v := by
  have hj : j < xs.length := (List.getElem?_eq_some_iff.mp h).1
  have e : ixN xs.length (j : Int) = some j := by
    unfold ixN
    rw [if_pos (by omega), if_pos (by omega)]; simp
  unfold atI; rw [e]; exact h
/-! ### what may be subscripted -/
/-- what stands as an index of a plain subscript -/
noncomputable def PlainIx (b : Expr) : Prop := ∀ o i, subscripted b false o i = operate [o, i] (getItem o i)
/-- a subscript by values -/
noncomputable def IxR (X : Cx) (r : R2) : Prop :=
  ∀ (value slice : Expr) (pins : List (Addr × Obj)) (s : Shared) (σ : St) (H : Hp) (x y : V) (v u : Value) (Q : VK), Inv X pins σ H s → RelV x v → RelV y u → r x y H Q →
    subscripted slice false v u = operate [v, u] (getItem v u) → wpAny (model X.prog X.w) X.A (subscriptTail value slice v u) (EP X pins σ Q) X.xe s
/-- a call of a builtin's method by values: the receiver, the arguments -/
noncomputable def MtR (X : Cx) (id : String) (r : V → List V → Hp → VK → Prop) : Prop :=
  ∀ (pins : List (Addr × Obj)) (s : Shared) (σ : St) (H : Hp) (x : V) (xs : List V) (v : Value) (us : List Value) (Q : VK), Inv X pins σ H s → RelV x v → Vals xs us → r x xs H Q →
    wpAny (model X.prog X.w) X.A (call (.builtin id) (v :: us)) (EP X pins σ Q) X.xe s
section
variable {X : Cx} {a b : Expr} {ta tb : TE} {pos : Pos}
theorem IxR.or {r r' : R2} (h : IxR X r) (h' : IxR X r') : IxR X (fun x y H Q => r x y H Q ∨ r' x y H Q) := by
  intro value slice pins s σ H x y v u Q I rx ry q hs
  rcases q with q | q
  · exact h value slice pins s σ H x y v u Q I rx ry q hs
  · exact h' value slice pins s σ H x y v u Q I rx ry q hs
theorem MtR.or {id : String} {r r' : V → List V → Hp → VK → Prop} (h : MtR X id r) (h' : MtR X id r') : MtR X id (fun x xs H Q => r x xs H Q ∨ r' x xs H Q) := by
  intro pins s σ H x xs v us Q I rx rs q
  rcases q with q | q
  · exact h pins s σ H x xs v us Q I rx rs q
  · exact h' pins s σ H x xs v us Q I rx rs q
/-- a[b] -/
theorem pe_ix {r : R2} (hr : IxR X r) (ha : PE X a ta) (hb : PE X b tb) (hs : PlainIx b) : PE X (.Subscript a b pos) (tOp r ta tb) := by
  intro pins s σ H Q I h
  exact Subscript_ (binT ha hb I h fun v u s2 x y H2 I2 rx ry q => hr a b pins s2 σ H2 x y v u Q I2 rx ry q (hs _ _))

noncomputable def rIxL (K : PySem.W.Frag) : R2 := fun x y H Q => ∃ p xs i v, x = .ref p ∧ y = .int i ∧ SqL K H p xs ∧ atI xs i = some v ∧ Q v H
noncomputable def rIxT (K : PySem.W.Frag) : R2 := fun x y H Q => ∃ p xs i v, x = .ref p ∧ y = .int i ∧ SqT K H p xs ∧ atI xs i = some v ∧ Q v H
noncomputable def rIxS : R2 := fun x y H Q => ∃ z i c, x = .str z ∧ y = .int i ∧ z.length ≤ sizeLine ∧ atI z.cps.toList i = some c ∧ Q (.str ⟨#[c]⟩) H
theorem ix_list : IxR X (rIxL X.K) := by
  intro value slice pins s σ H x y v u Q I rx ry h hs
  obtain ⟨p, xs, i, z, rfl, rfl, hq, he, q⟩ := h
  cases rx
  obtain ⟨t, rfl⟩ := ry
  obtain ⟨its, r, pl, hz⟩ := I.list hq
  obtain ⟨j, h1, h2, h3, h4, h5⟩ := atI_get he
  obtain ⟨w, ew, rw'⟩ := r.get h2
  have hl := r.length
  have hn := line63
  have fin : EP X pins σ Q w s := ⟨z, H, I, rw', q⟩
  by_cases h0 : 0 ≤ i
  · have hj : i.toNat = j := by
      rw [seqIndex_of h0 h5] at h1
      exact Option.some.inj h1
    exact item_listR pl.isList h0 (by omega) (by rw [hj]; simpa using ew) fin hs
  · have hj : (i + (its.toArray.size : Int)).toNat = j := by
      rw [seqIndex_neg (by omega) h4] at h1
      rw [List.size_toArray, ← hl]
      exact Option.some.inj h1
    exact subscriptTail_builtinR (x := w) pl.isList.typeIs slot_list_getitem.lookup
      (wpAny_getItem_list_neg (Q := fun r s' => r = w ∧ EP X pins σ Q r s') pl.isList (by omega) (by rw [List.size_toArray] <;> omega) (by omega) (by rw [hj]; simpa using ew) ⟨rfl, fin⟩) hs
theorem ix_tup : IxR X (rIxT X.K) := by
  intro value slice pins s σ H x y v u Q I rx ry h hs
  obtain ⟨p, xs, i, z, rfl, rfl, hq, he, q⟩ := h
  cases rx
  obtain ⟨t, rfl⟩ := ry
  obtain ⟨its, r, pl, hz⟩ := I.tuple hq
  obtain ⟨j, h1, h2, h3, h4, h5⟩ := atI_get he
  obtain ⟨w, ew, rw'⟩ := r.get h2
  have hl := r.length
  have hn := line63
  have fin : EP X pins σ Q w s := ⟨z, H, I, rw', q⟩
  exact subscriptTail_builtinR (x := w) pl.typeIs slot_tuple_getitem.lookup
    (getItem_tuple (j := j) (Q := fun r s' => r = w ∧ EP X pins σ Q r s') pl (by omega) (by omega) (by rw [List.size_toArray, ← hl]; exact h1) (by simpa using ew) ⟨rfl, fin⟩) hs
theorem ix_str : IxR X rIxS := by
  intro value slice pins s σ H x y v u Q I rx ry h hs
  obtain ⟨z, i, c, rfl, rfl, hz, he, q⟩ := h
  obtain ⟨t, rfl⟩ := rx
  obtain ⟨t', rfl⟩ := ry
  obtain ⟨j, h1, h2, h3, h4, h5⟩ := atI_get he
  have hl : z.cps.toList.length = z.length := by simp [Str.length]
  rw [hl] at h1 h4 h5
  have hn := line63
  exact tail_any (typeIs_str s z t) slot_str_getitem.lookup (getItem_str (c := c) (by
    have e1 : decide (i < -(2 ^ 63 : Int)) = false := decide_eq_false (by omega)
    have e2 : decide (i ≥ 2 ^ 63) = false := decide_eq_false (by omega)
    rw [e1, e2, Bool.or_false]) (by rw [h1]; simpa using h2) ⟨.str ⟨#[c]⟩, H, I.tok _, ⟨_, rfl⟩, q⟩) hs
/-- list, tuple or str -/
noncomputable def rIx (K : PySem.W.Frag) : R2 := fun x y H Q => rIxL K x y H Q ∨ rIxT K x y H Q ∨ rIxS x y H Q
/-! ### xs[i] = v, any sign -/
theorem Inv.lst {pins : List (Addr × Obj)} {σ : St} {H : Hp} {s : Shared} {p : Addr} {xs : List V} (I : Inv X pins σ H s) (h : H p = some (.lst xs)) :
    ∃ (its : List Value) (n : Nat), Vals xs its ∧ s.heap.get? p = some { cls := .type "list", data := .seq its.toArray n } ∧ xs.length ≤ sizeLine := by
  obtain ⟨z, its, n, r, e⟩ := I.hok p _ h
  exact ⟨its, n, r, e, z⟩
noncomputable def rSetL : V → V → V → Hp → (Hp → Prop) → Prop := fun o i v H Q => ∃ p xs k j, o = .ref p ∧ i = .int k ∧ H p = some (.lst xs) ∧ ixN xs.length k = some j ∧ Q (upd H p (.lst (xs.set j v)))
/-! ### slices -/
theorem slice_bounds (lo hi : Option Int) (n : Nat) : (sliceBounds lo hi none n).1 = ((HT.sIx n 0 lo : Nat) : Int) ∧ (sliceBounds lo hi none n).2.1 = ((HT.sIx n n hi : Nat) : Int) ∧ (sliceBounds lo hi none n).2.2 = 1 := by
  refine ⟨?_, ?_, rfl⟩
  · cases lo with
    | none => simp [sliceBounds, HT.sIx]
    | some i =>
      simp only [sliceBounds, HT.sIx, Option.getD_none, show (1 : Int) > 0 by decide, if_true]
      by_cases h : i < 0
      · simp only [h, if_true] <;> omega
      · simp only [h, if_false] <;> omega
  · cases hi with
    | none => simp [sliceBounds, HT.sIx]
    | some i =>
      simp only [sliceBounds, HT.sIx, Option.getD_none, show (1 : Int) > 0 by decide, if_true]
      by_cases h : i < 0
      · simp only [h, if_true] <;> omega
      · simp only [h, if_false] <;> omega
theorem slicePick_cut (its : List Value) (lo hi : Option Int) : slicePick its.toArray lo hi none = ((its.drop (HT.sIx its.length 0 lo)).take (HT.sIx its.length its.length hi - HT.sIx its.length 0 lo)).toArray := by
  obtain ⟨h1, h2, h3⟩ := slice_bounds lo hi its.toArray.size
  unfold slicePick
  rw [h1, h2, h3]
  simp only [sliceRange_one, pick_run, List.size_toArray] <;> rfl
/-- xs[lo:hi] of a list: a new list -/
noncomputable def rSlL (K : PySem.W.Frag) : V → Option Int → Option Int → Hp → VK → Prop := fun x lo hi H Q => ∃ a xs, x = .ref a ∧ SqL K H a xs ∧ ∀ p, H p = none → Q (.ref p) (upd H p (.lst (cutV xs lo hi)))
theorem sl_list : SlR X (rSlL X.K) := by
  intro pins s σ H x v vl vu lo hi sl Q I rx hs pl pu h
  obtain ⟨a, xs, rfl, hx, q⟩ := h
  cases rx
  obtain ⟨its, r, ht, hz⟩ := I.list hx
  have hlen := r.length
  refine ⟨"list", _, slot_list_getitem.lookup, ht.isList.typeIs, ?_⟩
  refine wpAny_getItem_list_slice ht.isList hs pl pu .none (by simp) ?_ (by rw [List.size_toArray] <;> omega)
  rw [slicePick_cut, ← hlen]
  refine ⟨.ref s.heap.objs.size, _, I.laid (t' := s.toks) (o := .lst (cutV xs lo hi)) (fun b ob q => Heap.get?_push_of_some _ q) (Nat.le_refl _) ?_, rfl, q _ (I.hok.fresh (Nat.le_refl _))⟩
  exact ⟨Nat.le_trans (cutV_length xs lo hi) hz, _, 0, (r.drop (HT.sIx xs.length 0 lo)).take (HT.sIx xs.length xs.length hi - HT.sIx xs.length 0 lo), Heap.get?_push_size _ rfl⟩

/-! ### in, not in: flat items -/
noncomputable def flatV : V → Bool
  | .non => true
  | .bl _ => true
  | .int _ => true
  | .str _ => true
  | _ => false
/-- == of flat values -/
noncomputable def eqV : V → V → Bool
  | .non, .non => true
  | .bl a, .bl b => a == b
  | .bl a, .int b => (if a then 1 else 0) == b
  | .int a, .bl b => a == (if b then 1 else 0)
  | .int a, .int b => a == b
  | .str a, .str b => a == b
  | _, _ => false
/-- the items' answers, read off the values (a value's own answer does not lean on its token) -/
noncomputable def eqU (x : V) (u : Value) : Bool := match u with
  | .none => eqV .non x
  | .bool b => eqV (.bl b) x
  | .int i _ => eqV (.int i) x
  | .str z _ => eqV (.str z) x
  | _ => false
noncomputable def inV (x : V) (xs : List V) : Bool := xs.any fun y => eqV y x
/-- x in a list or tuple of flat items -/
noncomputable def rIn (K : PySem.W.Frag) (neg : Bool) : R2 := fun x y H Q => ∃ p xs, y = .ref p ∧ (SqL K H p xs ∨ SqT K H p xs) ∧ flatV x = true ∧ xs.all flatV = true ∧ Q (.bl (if neg then !inV x xs else inV x xs)) H
/-! ### len, list(x), tuple(x) of any list or tuple that is read -/
theorem call_len_seq : CallR X (.builtin "len") (fun xs H Q => ∃ p ys, xs = [.ref p] ∧ (SqL X.K H p ys ∨ SqT X.K H p ys) ∧ Q (.int ys.length) H) := by
  intro pins s σ H xs us Q I r h
  obtain ⟨p, ys, rfl, hq, q⟩ := h
  obtain ⟨u, rfl, rx⟩ := vals1 r
  cases rx
  have hn := line63
  rcases hq with hq | hq
  · obtain ⟨its, r', pl, hz⟩ := I.list hq
    have hlen := r'.length
    exact Calls.call_len_list pl.isList (by simp only [List.size_toArray] <;> omega) ⟨.int ys.length, H, I.tok _, ⟨s.toks + 1, by rw [List.size_toArray, hlen]⟩, q⟩
  · obtain ⟨its, r', pl, hz⟩ := I.tuple hq
    have hlen := r'.length
    exact len_tuple pl (by simp only [List.size_toArray] <;> omega) ⟨.int ys.length, H, I.tok _, ⟨s.toks + 1, by rw [List.size_toArray, hlen]⟩, q⟩
theorem call_len_str : CallR X (.builtin "len") (fun xs H Q => ∃ z, xs = [.str z] ∧ z.length ≤ sizeLine ∧ Q (.int z.length) H) := by
  intro pins s σ H xs us Q I r h
  obtain ⟨z, rfl, hz, q⟩ := h
  obtain ⟨u, rfl, t, rfl⟩ := vals1 r
  have hn := line63
  exact len_str (by omega) ⟨.int z.length, H, I.tok _, ⟨_, rfl⟩, q⟩
theorem CallR.or {f : Value} {r r' : List V → Hp → VK → Prop} (h : CallR X f r) (h' : CallR X f r') : CallR X f (fun xs H Q => r xs H Q ∨ r' xs H Q) := by
  intro pins s σ H xs us Q I rs q
  rcases q with q | q
  · exact h pins s σ H xs us Q I rs q
  · exact h' pins s σ H xs us Q I rs q
theorem call_list_of : CallR X (.type "list") (fun xs H Q => ∃ p ys, xs = [.ref p] ∧ (SqL X.K H p ys ∨ SqT X.K H p ys) ∧ ∀ l, H l = none → Q (.ref l) (upd H l (.lst ys))) := by
  intro pins s σ H xs us Q I r h
  obtain ⟨p, ys, rfl, hq, q⟩ := h
  obtain ⟨u, rfl, rx⟩ := vals1 r
  cases rx
  have fin : ∀ (its : List Value), Vals ys its → ys.length ≤ sizeLine → ∀ (h' : Heap) (c' : Nat), (∀ b o', s.heap.get? b = some o' → h'.get? b = some o') →
      h'.get? s.heap.objs.size = some { cls := .type "list", dict := none, data := .seq its.toArray c', slots := #[] } → EP X pins σ Q (.ref s.heap.objs.size) { s with heap := h' } := fun its r' hz h' c' kp e =>
    ⟨.ref s.heap.objs.size, _, I.laid (t' := s.toks) kp (Nat.le_refl _) (show ObjOk X.prog X.w _ h' _ (.lst ys) from ⟨hz, its, c', r', e⟩), rfl, q _ (I.hok.fresh (Nat.le_refl _))⟩
  rcases hq with hq | hq
  · obtain ⟨its, r', pl, hz⟩ := I.list hq
    have hlen := r'.length
    obtain ⟨o, ho, hc, n, hd⟩ := pl.isList
    exact call_list_seq p (.inl rfl) ho hc hd (fun h' c' kp e => fin its r' hz h' c' kp e) (by simp only [List.size_toArray] <;> omega)
  · obtain ⟨its, r', pl, hz⟩ := I.tuple hq
    have hlen := r'.length
    obtain ⟨o, ho, hc, n, hd⟩ := pl
    exact call_list_seq p (.inr rfl) ho hc hd (fun h' c' kp e => fin its r' hz h' c' kp e) (by simp only [List.size_toArray] <;> omega)
theorem call_tuple_of : CallR X (.type "tuple") (fun xs H Q => ∃ p ys, xs = [.ref p] ∧ ((SqL X.K H p ys ∧ ∀ l, H l = none → Q (.ref l) (upd H l (.tup ys))) ∨ (SqT X.K H p ys ∧ Q (.ref p) H))) := by
  intro pins s σ H xs us Q I r h
  obtain ⟨p, ys, rfl, h⟩ := h
  obtain ⟨u, rfl, rx⟩ := vals1 r
  cases rx
  rcases h with ⟨hq, q⟩ | ⟨hq, q⟩
  · obtain ⟨its, r', pl, hz⟩ := I.list hq
    have hlen := r'.length
    refine call_tuple_list pl.isList (fun h' kp => ?_) (by simp only [List.size_toArray] <;> omega)
    have I1 : Inv X pins σ H { s with heap := h' } := I.kept (t' := s.toks) kp
    have I2 : Inv X pins σ (upd H h'.objs.size (.tup ys)) { s with heap := h'.push { cls := .type "tuple", data := .seq its.toArray } } :=
      I1.laid (t' := s.toks) (fun b o e => Heap.get?_push_of_some _ e) (Nat.le_refl _) (show ObjOk X.prog X.w _ _ _ (.tup ys) from ⟨hz, its, r', IsTup.new _ _⟩)
    exact ⟨.ref h'.objs.size, _, I2, rfl, q _ (I1.hok.fresh (Nat.le_refl _))⟩
  · obtain ⟨its, r', pl, hz⟩ := I.tuple hq
    exact call_tuple_same pl ⟨.ref p, H, I, rfl, q⟩

/-! ### the call of a builtin's method: o.m(..) -/
/-- the value is of that builtin type -/
noncomputable def tyV (K : PySem.W.Frag) (T : String) (x : V) (H : Hp) : Prop := match x with
  | .str _ => T = "str"
  | .int _ => T = "int"
  | .ref p => (T = "list" ∧ ∃ xs, SqL K H p xs) ∨ (T = "tuple" ∧ ∃ o, K.lookup p = some o ∧ o.cls = .type "tuple" ∧ o.dict = none) ∨
      (T = "dict" ∧ ((∃ kvs, H p = some (.dK kvs)) ∨ ∃ kvs, H p = some (.dT kvs))) ∨ (T = "set" ∧ ∃ S n, H p = some (.set S n))
  | _ => False
theorem tyV_is {pins : List (Addr × Obj)} {σ : St} {H : Hp} {s : Shared} {T : String} {x : V} {v : Value} (I : Inv X pins σ H s) (r : RelV x v) (ty : tyV X.K T x H) :
    s.TypeIs v T ∧ ∀ a, v = .ref a → ∃ ob, s.heap.get? a = some ob ∧ ob.dict = none := by
  cases x with
  | str z =>
    obtain ⟨t, rfl⟩ := r
    cases (show T = "str" from ty)
    exact ⟨typeIs_str s z t, fun _ e => nomatch e⟩
  | int i =>
    obtain ⟨t, rfl⟩ := r
    cases (show T = "int" from ty)
    exact ⟨typeIs_int s i t, fun _ e => nomatch e⟩
  | ref p =>
    cases r
    rcases ty with ⟨rfl, xs, hq⟩ | ⟨rfl, o, hk, hc, hd⟩ | ⟨rfl, hk⟩ | ⟨rfl, S, n, hk⟩
    · obtain ⟨its, _, pl, _⟩ := I.list hq
      refine ⟨pl.isList.typeIs, fun a e => ?_⟩
      cases e
      obtain ⟨o, n, e, c, hd, _⟩ := pl
      exact ⟨o, e, hd⟩
    · refine ⟨⟨o, I.kIn p o hk, hc⟩, fun a e => ?_⟩
      cases e
      exact ⟨o, I.kIn _ o hk, hd⟩
    · have z : ∃ o, s.heap.get? p = some o ∧ o.ExactDict := by
        rcases hk with ⟨kvs, hk⟩ | ⟨kvs, hk⟩
        · obtain ⟨_, _, _, _, o, _, _, e, ex, _⟩ := I.hok p _ hk
          exact ⟨o, e, ex⟩
        · obtain ⟨_, _, _, _, o, _, _, e, ex, _⟩ := I.hok p _ hk
          exact ⟨o, e, ex⟩
      obtain ⟨o, e, ex⟩ := z
      refine ⟨⟨o, e, ex.1⟩, fun a e2 => ?_⟩
      cases e2
      exact ⟨o, e, ex.2.1⟩
    · obtain ⟨o, _, _, _, e, ex, _⟩ := I.hok p _ hk
      refine ⟨⟨o, e, ex.1⟩, fun a e2 => ?_⟩
      cases e2
      exact ⟨o, e, ex.2.1⟩
  | _ => exact False.elim ty
noncomputable def tBM0 (K : PySem.W.Frag) (T : String) (r : V → List V → Hp → VK → Prop) (to : TE) : TE := fun σ H Q => to σ H fun x H1 => tyV K T x H1 ∧ r x [] H1 Q
noncomputable def tBM (K : PySem.W.Frag) (T : String) (r : V → List V → Hp → VK → Prop) (to : TE) (t : TA) : TE := fun σ H Q => to σ H fun x H1 => tyV K T x H1 ∧ t σ H1 fun xs H2 => r x xs H2 Q
variable {o e : Expr} {es : List Expr} {to : TE} {t : TA} {name : Str} {apos cpos : Pos} {T id : String} {r : V → List V → Hp → VK → Prop}
theorem pe_bm (pa : PlainAttrs T) (slot : Slot T name id) (hty : typeOf (.builtin id) = pure (.type "method_descriptor")) (hm : MtR X id r) (ho : PE X o to) (ha : PA X (e :: es) t)
    (hbase : attributeBase o name X.env (eval o X.env) = eval o X.env := by rfl)
    (hfew : ((backTo cpos (starEach (e :: es) X.env)).all (fun x => !x.1) && (backToKw cpos (keywordEach [] X.env)).all (fun x => x.1.isSome)
      && decide ((e :: es).length + ([] : List Keyword).length + (if ([] : List Keyword).isEmpty then 0 else 1) < 30)) = true := by rfl)
    (hline : (apos.endLine == cpos.line) = true := by rfl) (hs : starEach (e :: es) X.env = (false, eval e X.env) :: starEach es X.env := by rfl) (hplain : (backTo cpos (starEach es X.env)).any (·.1) = false := by rfl) :
    PE X (.Call (.Attribute o name apos) (e :: es) [] cpos) (tBM X.K T r to t) := by
  intro pins s σ H Q I h
  refine wpAny_Call_method_late hbase hfew hline rfl (thn (ho pins s σ H _ I h) fun v s1 ⟨x, H1, I1, r1, ty, q1⟩ => ?_)
  obtain ⟨h1, h2⟩ := tyV_is I1 r1 ty
  refine ⟨T, id, pa, slot, hty, h1, h2, ?_⟩
  have hA := ha cpos pins s1 σ H1 _ I1 q1
  rw [hs] at hA ⊢
  refine Calls.callWith_builtin (by show (false || (backTo cpos (starEach es X.env)).any (·.1)) = false; rw [hplain] <;> rfl) (Calls.evalArgs_plain ?_)
  exact thn hA fun us s2 ⟨vs, H2, I2, r2, q2⟩ => hm pins s2 σ H2 x vs v us Q I2 r1 r2 q2
/- xs.append(e), list.index on a module's tuple .. are MtR facts of 06m -/
end
end L2

namespace L2
open PySem PySem.Spec PyProof.Rows

noncomputable def MtM (X : Cx) (id : String) (r : V → List V → Hp → VK → Prop) : Prop :=
  ∀ (pins : List (Addr × Obj)) (s : Shared) (σ : St) (H : Hp) (x : V) (xs : List V) (v : Value) (us : List Value) (Q : VK), Inv X pins σ H s → RelV x v → Vals xs us → r x xs H Q →
    wpAny (model X.prog X.w) X.A (call (.builtin id) (v :: us)) (EP X pins σ Q) X.xe s

/-! ### lists of values -/
theorem Vals.one : ∀ {x : V} {us : List Value}, Vals [x] us → ∃ u, us = [u] ∧ RelV x u
  | _, _, .cons r .nil => ⟨_, rfl, r⟩
theorem Vals.zero : ∀ {us : List Value}, Vals [] us → us = []
  | _, .nil => rfl
theorem Vals.dropLast {xs : List V} {us : List Value} (h : Vals xs us) : Vals xs.dropLast us.dropLast := by
  induction h with
  | nil => exact .nil
  | cons r t ih =>
    cases t with
    | nil => exact .nil
    | cons q t' => exact .cons r ih
theorem Vals.eraseIdx : ∀ {xs : List V} {us : List Value} (i : Nat), Vals xs us → Vals (xs.eraseIdx i) (us.eraseIdx i)
  | _, _, _, .nil => .nil
  | _, _, 0, .cons _ t => t
  | _, _, i + 1, .cons r t => .cons r (Vals.eraseIdx i t)
theorem Vals.reverse {xs : List V} {us : List Value} (h : Vals xs us) : Vals xs.reverse us.reverse := by
  induction h with
  | nil => exact .nil
  | cons r t ih => rw [List.reverse_cons, List.reverse_cons]; exact Vals.append ih (.cons r .nil)
theorem Vals.rep {xs : List V} {us : List Value} (h : Vals xs us) : ∀ k : Nat, Vals (List.replicate k xs).flatten (List.replicate k us).flatten
  | 0 => .nil
  | k + 1 => by
    rw [List.replicate_succ, List.replicate_succ, List.flatten_cons, List.flatten_cons]
    exact Vals.append h (Vals.rep h k)
theorem foldl_rep (its : List Value) : ∀ (k : Nat) (acc : List Value),
    List.foldl (fun x1 x2 => x1 ++ x2) acc.toArray (List.replicate k its.toArray) = (acc ++ (List.replicate k its).flatten).toArray
  | 0, acc => by simp
  | k + 1, acc => by
    have e : acc.toArray ++ its.toArray = (acc ++ its).toArray := by simp
    have e2 : (acc ++ its) ++ (List.replicate k its).flatten = acc ++ (List.replicate (k + 1) its).flatten := by
      rw [List.replicate_succ, List.flatten_cons, List.append_assoc]
    rw [← e2, ← foldl_rep its k (acc ++ its), ← e, List.replicate_succ, List.foldl_cons]

section
variable {X : Cx} {pins : List (Addr × Obj)} {σ : St} {H : Hp} {s : Shared} {l b : Addr} {xs ys zs : List V}

/-! ### the two steps: a tracked list is rewritten, a new list is laid -/
theorem Inv.lset {its its' : List Value} {n : Nat} {f : Array Value → Array Value} {t' : Nat} (I : Inv X pins σ H s) (hH : H l = some (.lst xs))
    (e : s.heap.get? l = some { cls := .type "list", data := .seq its.toArray n }) (hf : f its.toArray = its'.toArray) (hv : Vals ys its') (hz : ys.length ≤ sizeLine) :
    Inv X pins σ (upd H l (.lst ys)) { s with heap := s.heap.update l (Obj.mapSeq f), toks := t' } := by
  have q := PySem.IsL.update e f
  rw [hf] at q
  refine I.write (x := l) (e := l) (by rw [hH]; exact trivial) (.inl rfl) (fun b' u hb hu => (Heap.get?_update_other s.heap (Obj.mapSeq f) (Ne.symm hb)).trans hu) ⟨_, q⟩ ?_
  exact ⟨hz, its', _, hv, q⟩
theorem Inv.lnew {its : List Value} {t' : Nat} (I : Inv X pins σ H s) (hv : Vals ys its) (hz : ys.length ≤ sizeLine) :
    Inv X pins σ (upd H s.heap.objs.size (.lst ys)) { s with heap := s.heap.push { cls := .type "list", data := .seq its.toArray }, toks := t' } :=
  I.laid (fun _ _ q => Heap.get?_push_of_some _ q) (Nat.le_refl _) ⟨hz, its, 0, hv, Heap.get?_push_size _ rfl⟩
theorem Inv.fresh (I : Inv X pins σ H s) : H s.heap.objs.size = none := I.hok.fresh (Nat.le_refl _)
theorem Inv.lstM (I : Inv X pins σ H s) (hH : H l = some (.lst xs)) : xs.length ≤ sizeLine ∧ ∃ (its : List Value) (n : Nat), Vals xs its ∧ xs.length = its.length ∧ s.heap.get? l = some { cls := .type "list", data := .seq its.toArray n } := by
  obtain ⟨z, its, n, r, e⟩ := I.hok l _ hH
  exact ⟨z, its, n, r, r.length, e⟩

end

section
variable {X : Cx}

/-! ### methods -/
noncomputable def rAppend : V → List V → Hp → VK → Prop := fun x vs H Q => ∃ l xs y, x = .ref l ∧ vs = [y] ∧ H l = some (.lst xs) ∧ xs.length < sizeLine ∧ Q .non (upd H l (.lst (xs ++ [y])))
theorem mt_append : MtM X "list.append" rAppend := by
  intro pins s σ H x vs v us Q I rx rv h
  obtain ⟨l, xs, y, rfl, rfl, hH, hz, q⟩ := h
  cases rx
  obtain ⟨u, rfl, ru⟩ := rv.one
  obtain ⟨z, its, n, r, hl, e⟩ := I.lstM hH
  refine call_meets F.slot_list_append ⟨_, e, rfl⟩ F.entry_list_append (F.args_list_append_2 _ _) (PySem.list_append l its.toArray n u (by rw [List.size_toArray]; omega)) ⟨e, ?_⟩
  refine ⟨.non, _, I.lset (its' := its ++ [u]) hH e (by simp) (r.append (.cons ru .nil)) ?_, rfl, q⟩
  rw [List.length_append, List.length_singleton]
  omega

noncomputable def rExtend : V → List V → Hp → VK → Prop := fun x vs H Q => ∃ l b xs zs, x = .ref l ∧ vs = [.ref b] ∧ H l = some (.lst xs) ∧ H b = some (.lst zs) ∧ xs.length + zs.length ≤ sizeLine ∧ Q .non (upd H l (.lst (xs ++ zs)))
noncomputable def rPop : V → List V → Hp → VK → Prop := fun x vs H Q => ∃ l xs y, x = .ref l ∧ vs = [] ∧ H l = some (.lst xs) ∧ xs[xs.length - 1]? = some y ∧ Q y (upd H l (.lst xs.dropLast))
noncomputable def rPopAt : V → List V → Hp → VK → Prop := fun x vs H Q => ∃ l xs i k y, x = .ref l ∧ vs = [.int i] ∧ H l = some (.lst xs) ∧ -(2 ^ 63) ≤ i ∧ i < 2 ^ 63 ∧ seqIndex? i xs.length = some k ∧ xs[k]? = some y ∧ Q y (upd H l (.lst (xs.eraseIdx k)))
noncomputable def rReverse : V → List V → Hp → VK → Prop := fun x vs H Q => ∃ l xs, x = .ref l ∧ vs = [] ∧ H l = some (.lst xs) ∧ Q .non (upd H l (.lst xs.reverse))
noncomputable def rClear : V → List V → Hp → VK → Prop := fun x vs H Q => ∃ l xs, x = .ref l ∧ vs = [] ∧ H l = some (.lst xs) ∧ Q .non (upd H l (.lst []))
/-! ### list + list, list += list, list * int -/
noncomputable def rCat : R2 := fun x y H Q => ∃ l b xs zs, x = .ref l ∧ y = .ref b ∧ H l = some (.lst xs) ∧ H b = some (.lst zs) ∧ xs.length + zs.length ≤ sizeLine ∧ ∀ p, H p = none → Q (.ref p) (upd H p (.lst (xs ++ zs)))
theorem op_cat : OpR X (binaryOp .Add) rCat := by
  intro pins s σ H x y v u Q I rx ry h
  obtain ⟨l, b, xs, zs, rfl, rfl, hH, hB, hz, q⟩ := h
  cases rx
  cases ry
  obtain ⟨z, its, n, r, hl, e⟩ := I.lstM hH
  obtain ⟨z2, its2, n2, r2, hl2, e2⟩ := I.lstM hB
  refine PySem.P.add_list e e2 ?_ (by rw [List.size_toArray, List.size_toArray]; omega)
  have ea : its.toArray ++ its2.toArray = (its ++ its2).toArray := by simp
  rw [ea]
  exact ⟨.ref _, _, I.lnew (t' := s.toks) (r.append r2) (by rw [List.length_append]; omega), rfl, q _ I.fresh⟩
/-- a list times an int (a negative one is nothing) -/
noncomputable def rRep : R2 := fun x y H Q => ∃ l k xs, x = .ref l ∧ y = .int k ∧ H l = some (.lst xs) ∧ -(2 ^ 63) ≤ k ∧ k < 2 ^ 63 ∧ xs.length * k.toNat ≤ sizeLine ∧
  ∀ p, H p = none → Q (.ref p) (upd H p (.lst (List.replicate k.toNat xs).flatten))
theorem len_rep {α : Type} (xs : List α) (k : Nat) : (List.replicate k xs).flatten.length = k * xs.length := by
  induction k with
  | zero => simp
  | succ k ih => rw [List.replicate_succ, List.flatten_cons, List.length_append, ih, Nat.succ_mul, Nat.add_comm]
/-! ### del xs[i] -/
end

/-! ### xs[a:b] = ys -/
section
variable {prog : Program} {w : World} {A : Around} {E : Value → Shared → Prop} {s : Shared}
end

section
variable {X : Cx}
end
end L2

namespace Att
open PySem PySem.W PySem.Calls PyProof.Rows

/-! ### the script -/
theorem ints_of_wellAll {P : Params} {h : Heap} : ∀ (ns : List Int) (vs : List Value), WellAll P h vs (ns.map WData.int) → IntsAre vs ns := by
  intro ns
  induction ns with
  | nil =>
    intro vs w
    rw [List.map_nil] at w
    cases w
    exact .nil
  | cons n ns ih =>
    intro vs w
    rw [List.map_cons] at w
    cases w with
    | cons a b =>
      cases a
      exact .cons _ _ (ih _ b)

theorem script_of {l : OpenLaw} {n : Nat} (hn : l.most = some n) {P : Params} {h : Heap} {args : List WData} {vals : List Value}
    (hpre : l.row.toRowW.claim.pre args = true) (hwl : WellAll P h vals args) :
    ∃ a vs ns, vals = [Value.ref a] ∧ args = [WData.list (ns.map WData.int)] ∧ h.get? a = some { cls := .type "list", data := .seq vs.toArray } ∧ IntsAre vs ns ∧ ns.length ≤ n := by
  have hsh : WShape.hasAll [] args [.list .int] = true := (pre_splitW hpre).1
  have hc : l.pre.holds [] { args := args } = true := (pre_splitW hpre).2
  obtain ⟨d, r, rfl, h1, h2⟩ := hasAllW_cons hsh
  obtain rfl := hasAllW_nil h2
  obtain ⟨xs, rfl, h3⟩ := hasW_list h1
  obtain ⟨ns, rfl⟩ := items_int h3
  have hlen : ns.length ≤ n := by
    unfold OpenLaw.pre at hc
    have h4 : (WTm.not (.lt (.lit (.int (n : Int))) (.len (.arg 0)))).holds [] { args := [.list (ns.map .int)] } = true := by
      have h4 := (holds_andW hc).1
      rw [hn] at h4
      exact h4
    have h5 := condW_of h4 (w_not (w_lt w_lit (w_len_list (w_arg rfl))))
    rw [List.length_map] at h5
    refine Nat.le_of_not_lt fun q => ?_
    have q' : (n : Int) < ((ns.length : Nat) : Int) := by omega
    first
      | (rw [decide_eq_true q'] at h5; exact absurd h5 (by decide))
      | (simp at h5; omega)
  cases hwl with
  | cons w1 w2 =>
    cases w2
    cases w1 with
    | list ho hall => exact ⟨_, _, ns, rfl, rfl, ho, ints_of_wellAll ns _ hall, hlen⟩

theorem post_true (l : OpenLaw) (args : List WData) : l.row.toRowW.claim.post args (.bool true) args = true :=
  postW_of (r := l.row.toRowW) (X := (true == true))
    (show WShape.has [] (.bool true) .bool = true by first | rfl | decide | simp [WShape.has, WShape.arms, WShape.armsAll])
    (show (WTm.eq .res (.lit (.bool true))).value [] { args := args, res := some (.bool true), after := args } = some (.bool (true == true)) from w_eq_bool (w_res rfl) w_lit) rfl

/-! ### the attachment: holds_open's last premise (the goal 'hc' behind k_head) from a wpAny of the law's body -/
/-- the same from a codeAny of the CALL (for a layer whose function contracts speak of calls) -/
theorem attach_call {l : OpenLaw} {n : Nat} {q : Program} {loose : List Str} {XP : (Str → Option Value) → Heap → Prop} {YP : World → Heap → Prop} {d : DefRec}
    (hn : l.most = some n) (hdf : d.params.defaults = [])
    (call : ∀ (w : World) (s₀ s₁ : Shared) (mg mb : Str → Option Value) (fa : Addr) (o : Obj) (pm cd doc : Value) (a : Addr) (vs : List Value) (ns : List Int),
      Ground q loose [] XP w s₀ mg mb s₁.heap → YP w s₁.heap →
      s₁.heap.get? fa = some o → o.data = .func (docDef d.name d.params d.body d.scope pm cd doc) → s₁.heap.CodeRec cd d.name → mg d.name = some (.ref fa) →
      s₁.heap.get? a = some { cls := .type "list", data := .seq vs.toArray } → IntsAre vs ns → ns.length ≤ n → s₁.gens = #[] →
      codeAny (model l.prog w) callerA (.call (.ref fa) ⟨[.ref a], []⟩) (fun r s' => r = .ok (.ret (.bool true)) ∧ OldK s₁.heap s'.heap ∧ s'.os = s₁.os ∧ AllBare s'.gens) s₁) :
    WalkO q loose XP YP l.row.toRowW d [] (fun f vs => PySem.call f vs) := by
  intro w s₀ s₁ mg mb G Y fa o pm cd doc dV kV ho hd hcd hD hmg hg args vals as hpre hlay hrd hwl hlo
  obtain rfl : dV = .none := Dflts.none hD hdf
  obtain rfl : kV = .none := Dflts.noKw hD
  obtain ⟨a, vs, ns, rfl, rfl, hobj, hints, hlen⟩ := script_of hn hpre hwl
  refine enter_call (codeAny_mono (call w s₀ s₁ mg mb fa o pm cd doc a vs ns G Y ho (fd_plain hd) hcd hmg hobj hints hlen hg) fun r s' hq => ?_)
  obtain ⟨rfl, h2, h3, h4⟩ := hq
  exact ⟨.inl ⟨.bool true, .bool true, [], rfl, fun _ => rfl, .bool true, post_true l _, fun _ => ⟨List.Pairwise.nil, fun _ hm => (nomatch hm)⟩⟩, h2, h3, h4⟩

/-! ### rules over ANY heap (no ledger) from facts about the written part K: the library's own take a ledger (News) for what they write -/
section
variable {prog : Program} {w : World} {A : Around} {E : Value → Shared → Prop} {s : Shared} {K : Frag}

/-! the whole heap as the ledger: makes every rule that writes through a ledger a rule over any heap -/
noncomputable def noObjs (h : Heap) : Heap := { h with objs := #[] }
noncomputable def ledger (h : Heap) (L d : Addr) : List (Addr × Obj) := (List.range h.objs.size).filterMap fun a => if a = L ∨ a = d then none else (h.get? a).map fun o => (a, o)
end
end Att

namespace L2
open PySem PySem.Spec PyProof.Rows

theorem vals_ints : ∀ {vs : List Value} {ns : List Int}, IntsAre vs ns → Vals (ns.map V.int) vs
  | _, _, .nil => .nil
  | _, _, .cons n t h => .cons ⟨t, rfl⟩ (vals_ints h)

/-- nothing is tracked but the script, known to the object (or it is an object of the module) -/
noncomputable def Only (H : Hp) : Prop := ∀ b, H b = none ∨ ∃ o xs, H b = some (.frz o (.lst xs))

/-- THE HEAD: the law's promise, at the heap behind the top. F, the promise of the law's def, may use that base is part of the heap (so K.In base, base.Ns mainGlobals mg stand in Mod) -/
theorem law_call {P : Program} {w : World} {K : PySem.W.Frag} {mg mb : Str → Option Value} {CX : CXT} {k : Nat} {fa a : Addr} {fd : FuncData} {x : Str} {sp : Sp} {s₁ : Shared} {vs : List Value} {ns : List Int}
    (KX : K.In s₁.heap) (hns : s₁.heap.Ns mainGlobals mg) (hb : s₁.heap.Ns builtinsNs mb) (hbb : ∀ x : Str, x ≠ "__name__" → mb x = bootBuiltins x) (hlim : s₁.heap.NoLimit) (hg : s₁.gens = #[])
    (ha : s₁.heap.get? a = some { cls := .type "list", data := .seq vs.toArray }) (hi : IntsAre vs ns) (hl : ns.length ≤ sizeLine) (hr : Room k callerA)
    (F : ∀ base : Heap, K.In base → base.Ns mainGlobals mg → FnOk P w K mg base CX k fa fd [x] sp) (hbind : ∀ (s : Shared) (u : Value), BindsTo s fd ⟨[u], []⟩ [(x, u)])
    (hsp : ∀ H : Hp, Only H → SqL K H a (ns.map V.int) → sp [.ref a] H (fun v _ => v = .bl true) fun _ _ _ => False)
    (hCX : ∀ H e s', CX [] H s₁ (fun _ _ _ => False) e s' → False) :
    codeAny (model P w) callerA (.call (.ref fa) ⟨[.ref a], []⟩) (fun r s' => r = .ok (.ret (.bool true)) ∧ OldK s₁.heap s'.heap ∧ s'.os = s₁.os ∧ AllBare s'.gens) s₁ := by
  have rv := vals_ints hi
  have lenV := hi.length
  -- from an abstract heap in which nothing but the script may be tracked
  have core : ∀ H : Hp, Only H → SqL K H a (ns.map V.int) → HOk P w H s₁.heap → (∀ b, H b ≠ none → b = a) → (H a ≠ none → K.lookup a = none) →
      codeAny (model P w) callerA (.call (.ref fa) ⟨[.ref a], []⟩) (fun r s' => r = .ok (.ret (.bool true)) ∧ OldK s₁.heap s'.heap ∧ s'.os = s₁.os ∧ AllBare s'.gens) s₁ := by
    intro H hO hS hok hA hK
    have base_of : ∀ {b : Addr} {o : Obj}, s₁.heap.get? b = some o → H b = none → (hidT s₁.heap H).get? b = some o := fun e n => hidT_get e n
    have noA : ∀ {b : Addr} {o : Obj} {es : Array DictEntry} {ep : Nat}, s₁.heap.get? b = some o → o.data = .dict es ep → H b = none := fun {b o es ep} e d => by
      cases q : H b with
      | none => rfl
      | some u =>
        have e' : b = a := hA b (by rw [q]; simp)
        subst e'
        rw [ha] at e; cases e
        have d' : Data.seq vs.toArray _ = Data.dict es ep := d
        cases d'
    have nsK : ∀ {b : Addr} {m : Str → Option Value}, s₁.heap.Ns b m → (hidT s₁.heap H).Ns b m := fun {b m} ⟨o, es, ep, e, d, r⟩ => ⟨o, es, ep, base_of e (noA e d), d, r⟩
    have hKb : K.In (hidT s₁.heap H) := fun b o e => base_of (KX b o e) (by
      cases q : H b with
      | none => rfl
      | some u =>
        have e' : b = a := hA b (by rw [q]; simp)
        subst e'
        rw [hK (by rw [q]; simp)] at e; cases e)
    have hM : Mod K mg (hidT s₁.heap H) := ⟨hKb, nsK hns, ⟨mb, nsK hb, hbb⟩, let ⟨mc, h1, h2⟩ := hlim; ⟨mc, nsK h1, h2⟩⟩
    have e0 : Env0 P w K mg (hidT s₁.heap H) callerA [] s₁ H := ⟨rfl, hM, fun b o e => of_hidT e, Nat.le_of_eq (hidT_size _ _), trivial, fun b hb => absurd (show b ∈ ([] : List Addr) from hb) (by simp), hok, .of_eq hg⟩
    refine codeAny_mono ((F _ hKb (nsK hns)).run callerA [] s₁ H ⟨[.ref a], []⟩ [.ref a] [.ref a] _ _ hr e0 (hbind s₁ (.ref a)) (.cons rfl .nil) (hsp H hO hS)) fun r s' h => ?_
    cases r with
    | error e => exact (hCX H e s' h).elim
    | ok fl =>
      cases fl with
      | next => exact False.elim h
      | brk => exact False.elim h
      | cont => exact False.elim h
      | ret u =>
        obtain ⟨v, H', os, bare, un, hok', r', q⟩ := h
        have q' : v = .bl true := q
        subst q'
        obtain rfl : u = Value.bool true := r'
        refine ⟨rfl, OldK.of_keep fun b o e => ?_, os, bare⟩
        cases q : H b with
        | none => exact un.keep b o e q (by intro z; exact absurd (show b ∈ ([] : List Addr) from z) (by simp)) (by simp)
        | some u =>
          rcases hO b with z | ⟨ob, xs, z⟩
          · rw [q] at z; cases z
          · have z2 := un.frzs b ob _ z
            obtain ⟨e1, _⟩ := hok b _ z
            obtain ⟨e2, _⟩ := hok' b _ z2
            rw [e] at e1; cases e1
            exact e2
  cases hk : K.lookup a with
  | some o =>
    -- the script is one of the module's own objects
    have e := KX a o hk
    rw [ha] at e
    cases e
    refine core (fun _ => none) (fun _ => .inl rfl) (.inr ⟨_, vs.toArray, _, hk, rfl, rfl, rfl, by rw [List.size_toArray, lenV]; exact hl, by simpa using rv⟩) (fun b u z => by have z' : (none : Option HO) = some u := z; cases z') (fun b z => absurd rfl z) fun z => absurd rfl z
  | none =>
    refine core (fun b => if b = a then some (.frz { cls := .type "list", data := .seq vs.toArray } (.lst (ns.map V.int))) else none) (fun b => ?_) (.inl (.inr ⟨{ cls := .type "list", data := .seq vs.toArray }, if_pos rfl⟩)) (fun b u z => ?_) (fun b z => ?_) fun _ => hk
    · by_cases hb : b = a
      · exact .inr ⟨_, _, if_pos hb⟩
      · exact .inl (if_neg hb)
    · by_cases hb : b = a
      · have z' := (if_pos hb).symm.trans z
        cases z'
        subst hb
        exact ⟨ha, by rw [List.length_map]; exact hl, vs, _, rv, ha⟩
      · have z' := (if_neg hb).symm.trans z
        cases z'
    · by_cases hb : b = a
      · exact hb
      · exact absurd (if_neg hb) z
end L2

namespace L2
open PySem PySem.Spec PyProof.Rows

noncomputable abbrev KOf {K : PySem.W.Frag} {h : Heap} (_ : K.In h) : PySem.W.Frag := K

/-- the goal that k_head leaves (case hc), from the law's promise. F gives the function object fd (K's own) once, then the promise over every base -/
theorem walk_of {l : PySem.W.OpenLaw} {n k : Nat} {q : Program} {loose : List Str} {XP : (Str → Option Value) → Heap → Prop} {YP : World → Heap → Prop} {d : DefRec} {K : Params → PySem.W.Frag} {CX : World → CXT} {sp : World → Sp} {x : Str}
    (hn : l.most = some n) (hn2 : n ≤ sizeLine) (hdf : d.params.defaults = []) (hr : Room k callerA)
    (hY : ∀ (w : World) (h : Heap), YP w h → (K w.params).In h)
    (F : ∀ (w : World) (mg : Str → Option Value) (fa : Addr) (h : Heap), (K w.params).In h → h.Ns mainGlobals mg → mg d.name = some (.ref fa) →
      ∃ fd : FuncData, (∀ (s : Shared) (u : Value), BindsTo s fd ⟨[u], []⟩ [(x, u)]) ∧
        ∀ base : Heap, (K w.params).In base → base.Ns mainGlobals mg → FnOk l.prog w (K w.params) mg base (CX w) k fa fd [x] (sp w))
    (hsp : ∀ (w : World) (H : Hp) (a : Addr) (ns : List Int), ns.length ≤ n → Only H → SqL (K w.params) H a (ns.map V.int) → sp w [.ref a] H (fun v _ => v = .bl true) fun _ _ _ => False)
    (hCX : ∀ (w : World) (H : Hp) (s : Shared) (e : Value) (s' : Shared), CX w [] H s (fun _ _ _ => False) e s' → False) :
    PySem.W.WalkO q loose XP YP l.row.toRowW d [] (fun f vs => PySem.call f vs) := by
  refine Att.attach_call hn hdf fun w s₀ s₁ mg mb fa o pm cd doc a vs ns G Y ho hd hcd hmg hobj hints hlen hg => ?_
  have KX := hY w _ Y
  obtain ⟨fd, hb, hF⟩ := F w mg fa _ KX G.T.g hmg
  exact law_call KX G.T.g G.T.b G.T.builtins G.T.nolimit hg hobj hints (Nat.le_trans hlen hn2) hr hF hb (fun H hO hS => hsp w H a ns hlen hO hS) fun H e s' => hCX w H s₁ e s'
end L2

/- THE LAST THEOREM (shape; LID, My.* are yours):
   My.Adr: a structure of the addresses that your layer names (classes, functions); My.Txt K t: a structure (Prop) of the equations over K;
   My.txt_mk : {K} {implicit addresses ..} (e1 : nsIn K mainGlobals "law" = some (some (.ref f))) (e2 : K.lookup f = some ⟨oc, od, .func (fnOf "law" "law" params body scope dV kV doc pm an cdv ct), sl⟩) (e3 : codeIn K cdv "law" = true) .. : ∃ t, My.Txt K t

set_option maxRecDepth 100000 in
set_option maxHeartbeats 0 in
theorem PySem.Challenge.cw_LID_holds : PySem.Challenge.rw_LID.Holds := by
  w_on; o_law; k_head; (case hw => w_witness2)
  k_fill
  refine L2.walk_of (l := PySem.Challenge.rw_LID) (n := 63) (k := 40) (x := "script") (CX := fun w => ..) (sp := fun _ => My.sp_law) rfl (by decide) rfl ⟨rfl, by decide, by decide⟩ (fun w h Y => PySem.W.kIn_of Y) ?F ?S ?C
  case F =>
    intro w mg fa h KX G hmg
    have T : ∃ t, My.Txt (L2.KOf KX) t := by
      dsimp only [L2.KOf]                          -- K must stand as «<heap const> w.params» for k_is
      refine' My.txt_mk ?e1 ?e2 ?e3 ..
      (case e1 => PySem.W.k_is)                    -- in the order: a name -> its address -> its object -> its parts
      (case e2 => PySem.W.k_is)
      ..
    obtain ⟨t, T⟩ := T
    have e0 := hmg.symm.trans (PySem.W.mg_of KX G T.law)
    cases e0                                       -- fa is the law's own address
    exact ⟨_, fun s u => .of_eq rfl, fun base kb nb => My.law_fn T kb nb⟩     -- if «.of_eq rfl» comes too early: refine' ⟨_, ?b, fun base kb nb => My.law_fn T kb nb⟩; exact fun s u => .of_eq rfl
  case S => exact fun w H a ns hl hO hS => ..
  case C => exact ..
(the tactic k_is has no namespace: write k_is) -/

/-! SHORT WORDS over the layer: a def of the text, its body, what a loop and a test want. -/
namespace L2
open PySem PySem.Spec PyProof.Rows

/-! ### the text by places -/
/-- the j-th statement of a class's body -/
noncomputable def inClass (s : Stmt) (j : Nat) : Stmt := match s with
  | .ClassDef _ _ _ body _ _ _ _ _ _ _ => body.getD j (.Pass ⟨0, 0, 0, 0⟩)
  | _ => .Pass ⟨0, 0, 0, 0⟩
noncomputable def defArgs (s : Stmt) : Arguments := match s with
  | .FunctionDef _ a _ _ _ _ _ _ _ _ => a
  | _ => { posonlyargs := [], args := [], vararg := none, kwonlyargs := [], kw_defaults := [], kwarg := none, defaults := [] }
noncomputable def defBody (s : Stmt) : List Stmt := match s with
  | .FunctionDef _ _ b _ _ _ _ _ _ _ => b
  | _ => []
noncomputable def defScope (s : Stmt) : Scope := match s with
  | .FunctionDef _ _ _ _ _ _ sc _ _ _ => sc
  | _ => { kind := .function, names := [], isGenerator := false, isCoroutine := false }

/-! ### no exception leaves a def -/
noncomputable abbrev CX0 : CXT := fun _ _ _ _ _ _ => False
noncomputable abbrev E0 : XK := fun _ _ _ => False
/-! ### a def (or method) of the text as it stands behind the top -/
structure Fun (K : PySem.W.Frag) (x qual : Str) (st : Stmt) (f : Addr) (fd : FuncData) : Prop where
  ex : ∃ (oc : Value) (od : Option Addr) (kV doc pm : Value) (an : Option Addr) (cdv ct : Value) (osl : Array (Option Value)),
    fd = PySem.W.fnOf x qual (defArgs st) (defBody st) (defScope st) .none kV doc pm an cdv ct ∧ K.lookup f = some ⟨oc, od, .func fd, osl⟩ ∧ PySem.W.codeIn K cdv qual = true
  kp : PySem.W.keepIn K (.ref f) = true
section
variable {P : Program} {w : World} {K : PySem.W.Frag} {mg : Str → Option Value} {base : Heap}
/-- THE RULE for a def: its body as a term of rules, and the reading of that term -/
theorem Fun.ok {x qual : Str} {st : Stmt} {f : Addr} {fd : FuncData} {N ps : List Str} {k : Nat} {sp : Sp} (F : Fun K x qual st f fd) (S : FnScope N ps (defScope st)) (len : ∀ vs H Q E, sp vs H Q E → vs.length = ps.length)
    (hbody : ∀ (cdv : Value) (A : Around) (outer : List Env) (s : Shared) (H : Hp) (vs : List V) (Q : VK) (E : XK), Room k (A.deeper (envOfC qual (defScope st) s.heap.objs.size f cdv)) → sp vs H Q E →
      ∃ t, PSs (cxOf CX0 P w K mg base N qual (defScope st) f cdv A outer s H E).nox (defBody st) t ∧ t { nx := fun _ H' => Q .non H', rt := Q } (start N vs) H) : FnOk P w K mg base CX0 (k + 1) f fd ps sp := by
  obtain ⟨oc, od, kV, doc, pm, an, cdv, ct, osl, rfl, lk, hcd⟩ := F.ex
  refine fn_of lk hcd S len fun A outer s H vs Q E hr hsp => ?_
  obtain ⟨t, h, q⟩ := hbody cdv A outer s H vs Q E hr hsp
  exact ⟨t, h.nox, q⟩
/-- how its arguments bind (no defaults): h is «fun _ _ _ _ _ _ us hl => match us, hl with | [_, _], _ => rfl», one _ a parameter -/
theorem Fun.binds {x qual : Str} {st : Stmt} {f : Addr} {fd : FuncData} {ps : List Str} (F : Fun K x qual st f fd)
    (h : ∀ (kV doc pm : Value) (an : Option Addr) (cdv ct : Value) (us : List Value), us.length = ps.length → bindArgs (PySem.W.fnOf x qual (defArgs st) (defBody st) (defScope st) .none kV doc pm an cdv ct) ⟨us, []⟩ = pure (ps.zip us)) : Binds K fd ps [] := by
  obtain ⟨oc, od, kV, doc, pm, an, cdv, ct, osl, rfl, lk, hcd⟩ := F.ex
  exact .all (h kV doc pm an cdv ct)
theorem fun_mk {x qual : Str} {st : Stmt} {f : Addr} {oc : Value} {od an : Option Addr} {osl : Array (Option Value)} {kV doc pm cdv ct : Value} (l : K.lookup f = some ⟨oc, od, .func (PySem.W.fnOf x qual (defArgs st) (defBody st) (defScope st) .none kV doc pm an cdv ct), osl⟩)
    (c : PySem.W.codeIn K cdv qual = true) (k : PySem.W.keepIn K (.ref f) = true) : Fun K x qual st f (PySem.W.fnOf x qual (defArgs st) (defBody st) (defScope st) .none kV doc pm an cdv ct) := ⟨⟨oc, od, kV, doc, pm, an, cdv, ct, osl, rfl, l, c⟩, k⟩
end
/-! ### expressions in short: the name that stands in the i-th slot -/
section
variable {X : Cx}
end

/-! ### tests -/
/-! ### heaps -/
/-- all that was tracked is as it was -/
noncomputable def Same (H H' : Hp) : Prop := ∀ b o, H b = some o → H' b = some o
theorem Same.refl (H : Hp) : Same H H := fun _ _ h => h
theorem Same.trans {H H1 H2 : Hp} (a : Same H H1) (b : Same H1 H2) : Same H H2 := fun c o h => b c o (a c o h)
theorem Same.free {H H' : Hp} (e : Same H H') {l : Addr} (h : H' l = Option.none) : H l = Option.none := by
  cases q : H l with
  | none => rfl
  | some o =>
    rw [e l o q] at h
    cases h
theorem Same.seq {K : PySem.W.Frag} {H H' : Hp} {a : Addr} {xs : List V} (e : Same H H') (h : SqL K H a xs) : SqL K H' a xs := by
  rcases h with (h | ⟨o, h⟩) | h
  · exact .inl (.inl (e _ _ h))
  · exact .inl (.inr ⟨o, e _ _ h⟩)
  · exact .inr h

end L2

/-! DL1 -/
section
set_option Elab.async false
set_option linter.all false
set_option maxRecDepth 100000
/-! DL: values as deep data, mutable things as numbered places of a store; each construct's meaning a Lean function. Part 1: data, what stands for it, equality. -/
namespace DL
open PySem PySem.Spec PyProof.Rows L2

/-- deep data: scr the script's own list (never written), lst a list that is never written, res the i-th thing of the store, exv an exception of the class at C -/
inductive D where
  | non | bl (b : Bool) | int (i : Int) | str (x : Str) | tup (xs : List D) | lst (xs : List D) | scr (xs : List D) | res (i : Nat) | exv (C : Addr)
/-- a thing of the store: a list that may be written, an instance, a dict -/
inductive S where
  | lst (xs : List D)
  | ins (C : Addr) (fs : List (Str × D))
  | dct (kvs : List (D × D))
  | dtt (kvs : List (D × D))
noncomputable abbrev Sto := List S
noncomputable abbrev Ev := List (Option D)
inductive Out (α : Type) where
  | ok (a : α) (st : Sto)
  | exc (c : Addr) (st : Sto)
  | bad
noncomputable def Out.bind {α β : Type} (r : Out α) (k : α → Sto → Out β) : Out β := match r with
  | .ok a st => k a st
  | .exc c st => .exc c st
  | .bad => .bad
theorem nodup_at {α : Type} {l : List α} (hl : l.Nodup) {i j : Nat} {x : α} (a : l[i]? = some x) (b : l[j]? = some x) : i = j := by
  obtain ⟨h1, e1⟩ := List.getElem?_eq_some_iff.mp a
  obtain ⟨h2, e2⟩ := List.getElem?_eq_some_iff.mp b
  have hp := List.pairwise_iff_getElem.mp hl
  rcases Nat.lt_trichotomy i j with h | h | h
  · exact absurd (e1.trans e2.symm) (hp i j h1 h2 h)
  · exact h
  · exact absurd (e2.trans e1.symm) (hp j i h2 h1 h)
/-! ### what stands for what -/
/-- at a stands an exception of the class at C -/
noncomputable def ExcO (a C : Addr) : Heap → Prop := fun h => ∃ o vs, h.get? a = some o ∧ o.cls = .ref C ∧ o.data = .fields vs
theorem ExcO.inj {a C C' : Addr} {h : Heap} (x : ExcO a C h) (y : ExcO a C' h) : C = C' := by
  obtain ⟨o, _, e, c, _⟩ := x
  obtain ⟨o', _, e', c', _⟩ := y
  rw [e] at e'
  cases e'
  rw [c] at c'
  exact Value.ref.inj c'
section
variable (K : PySem.W.Frag)
/-- a list that nothing writes: frozen, or the module's -/
noncomputable def SqF (H : Hp) (a : Addr) (vs : List V) : Prop :=
  (∃ o, H a = some (.frz o (.lst vs))) ∨ ∃ (o : Obj) (its : Array Value) (n : Nat), K.lookup a = some o ∧ o.cls = .type "list" ∧ o.dict = none ∧ o.data = .seq its n ∧ its.size ≤ sizeLine ∧ Vals vs its.toList
mutual
noncomputable def Rep (O : List Addr) (H : Hp) : D → V → Prop
  | .non, v => v = .non
  | .bl b, v => v = .bl b
  | .int i, v => v = .int i
  | .str x, v => v = .str x
  | .tup ds, v => ∃ a vs, v = .ref a ∧ H a = some (.tup vs) ∧ Reps O H ds vs
  | .lst ds, v => ∃ a vs, v = .ref a ∧ a ∉ O ∧ H a = some (.lst vs) ∧ Reps O H ds vs
  | .scr ds, v => ∃ a vs, v = .ref a ∧ SqF K H a vs ∧ Reps O H ds vs
  | .res i, v => ∃ a, v = .ref a ∧ O[i]? = some a
  | .exv C, v => ∃ a, v = .ref a ∧ H a = some (.ext (ExcO a C))
noncomputable def Reps (O : List Addr) (H : Hp) : List D → List V → Prop
  | [], vs => vs = []
  | d :: ds, vs => ∃ v r, vs = v :: r ∧ Rep O H d v ∧ Reps O H ds r
end
noncomputable def Flds (O : List Addr) (H : Hp) : List (Str × D) → List (Str × V) → Prop
  | [], vs => vs = []
  | (x, d) :: ds, vs => ∃ v r, vs = (x, v) :: r ∧ Rep K O H d v ∧ Flds O H ds r
/-- a key: an int, a text; a tuple of such -/
noncomputable def keyD : D → Option Key
  | .int i => some (.inl i)
  | .str x => some (.inr x)
  | _ => none
noncomputable def keyDs : List D → Option (List Key)
  | [] => some []
  | d :: ds => match keyD d, keyDs ds with
    | some k, some ks => some (k :: ks)
    | _, _ => none
noncomputable def keyT : D → Option (List Key)
  | .tup ds => keyDs ds
  | _ => none
/-- a dict's items, its keys by f -/
noncomputable def Kvs {κ : Type} (f : D → Option κ) (O : List Addr) (H : Hp) : List (D × D) → List (κ × V) → Prop
  | [], vs => vs = []
  | (k, d) :: ds, vs => ∃ q v r, vs = (q, v) :: r ∧ f k = some q ∧ Rep K O H d v ∧ Kvs f O H ds r
noncomputable def RepS (O : List Addr) (H : Hp) (a : Addr) : S → Prop
  | .dct ds => ∃ vs, H a = some (.dK vs) ∧ Kvs K keyD O H ds vs
  | .dtt ds => ∃ vs, H a = some (.dT vs) ∧ Kvs K keyT O H ds vs
  | .lst ds => ∃ vs, H a = some (.lst vs) ∧ Reps K O H ds vs
  | .ins C fs => ∃ dx vfs, H a = some (.ins C dx vfs) ∧ Flds K O H fs vfs
/-- the store is held -/
structure WR (O : List Addr) (H : Hp) (st : Sto) : Prop where
  len : O.length = st.length
  nd : O.Nodup
  at_ : ∀ (i : Nat) (a : Addr) (s : S), O[i]? = some a → st[i]? = some s → RepS K O H a s
/-- nothing that data lean on is changed -/
structure Keep (O : List Addr) (H : Hp) (O' : List Addr) (H' : Hp) : Prop where
  tup : ∀ a vs, H a = some (.tup vs) → H' a = some (.tup vs)
  lst : ∀ a vs, a ∉ O → H a = some (.lst vs) → a ∉ O' ∧ H' a = some (.lst vs)
  frz : ∀ a vs, SqF K H a vs → SqF K H' a vs
  pre : ∀ (i : Nat) (a : Addr), O[i]? = some a → O'[i]? = some a
  exv : ∀ a C, H a = some (.ext (ExcO a C)) → H' a = some (.ext (ExcO a C))
end

section
variable {K : PySem.W.Frag} {O O1 O2 O' : List Addr} {H H1 H2 H' : Hp} {st st' : Sto}
theorem SqF.sq {a : Addr} {vs : List V} (h : SqF K H a vs) : SqL K H a vs := by
  rcases h with ⟨o, h⟩ | h
  · exact .inl (.inr ⟨o, h⟩)
  · exact .inr h
theorem SqF.of {a : Addr} {vs : List V} (h : SqL K H a vs) (hn : H a ≠ some (.lst vs)) : SqF K H a vs := by
  rcases h with (h | ⟨o, h⟩) | h
  · exact absurd h hn
  · exact .inl ⟨o, h⟩
  · exact .inr h
theorem Keep.refl : Keep K O H O H := ⟨fun _ _ h => h, fun _ _ n h => ⟨n, h⟩, fun _ _ h => h, fun _ _ h => h, fun _ _ h => h⟩
theorem Keep.trans (a : Keep K O H O1 H1) (b : Keep K O1 H1 O2 H2) : Keep K O H O2 H2 :=
  ⟨fun x vs h => b.tup x vs (a.tup x vs h), fun x vs n h => let ⟨n1, h1⟩ := a.lst x vs n h; b.lst x vs n1 h1, fun x vs h => b.frz x vs (a.frz x vs h), fun i x h => b.pre i x (a.pre i x h), fun x C h => b.exv x C (a.exv x C h)⟩
mutual
theorem Rep.mono (k : Keep K O H O' H') : ∀ (d : D) (v : V), Rep K O H d v → Rep K O' H' d v
  | .non, _, h => by unfold Rep at h ⊢; exact h
  | .bl _, _, h => by unfold Rep at h ⊢; exact h
  | .int _, _, h => by unfold Rep at h ⊢; exact h
  | .str _, _, h => by unfold Rep at h ⊢; exact h
  | .tup ds, v, h => by
    unfold Rep at h ⊢
    obtain ⟨a, vs, e, q, r⟩ := h
    exact ⟨a, vs, e, k.tup _ _ q, Reps.mono k ds vs r⟩
  | .lst ds, v, h => by
    unfold Rep at h ⊢
    obtain ⟨a, vs, e, n, q, r⟩ := h
    exact ⟨a, vs, e, (k.lst _ _ n q).1, (k.lst _ _ n q).2, Reps.mono k ds vs r⟩
  | .scr ds, v, h => by
    unfold Rep at h ⊢
    obtain ⟨a, vs, e, q, r⟩ := h
    exact ⟨a, vs, e, k.frz _ _ q, Reps.mono k ds vs r⟩
  | .res i, v, h => by
    unfold Rep at h ⊢
    obtain ⟨a, e, q⟩ := h
    exact ⟨a, e, k.pre _ _ q⟩
  | .exv C, v, h => by
    unfold Rep at h ⊢
    obtain ⟨a, e, q⟩ := h
    exact ⟨a, e, k.exv _ _ q⟩
theorem Reps.mono (k : Keep K O H O' H') : ∀ (ds : List D) (vs : List V), Reps K O H ds vs → Reps K O' H' ds vs
  | [], _, h => by unfold Reps at h ⊢; exact h
  | d :: ds, vs, h => by
    unfold Reps at h ⊢
    obtain ⟨v, r, e, q, t⟩ := h
    exact ⟨v, r, e, Rep.mono k d v q, Reps.mono k ds r t⟩
end
theorem Kvs.mono {κ : Type} {f : D → Option κ} (k : Keep K O H O' H') : ∀ (ds : List (D × D)) (vs : List (κ × V)), Kvs K f O H ds vs → Kvs K f O' H' ds vs
  | [], _, h => by unfold Kvs at h ⊢; exact h
  | (x, d) :: ds, vs, h => by
    unfold Kvs at h ⊢
    obtain ⟨q, v, r, e, z, y, t⟩ := h
    exact ⟨q, v, r, e, z, Rep.mono k d v y, Kvs.mono k ds r t⟩
theorem Flds.mono (k : Keep K O H O' H') : ∀ (ds : List (Str × D)) (vs : List (Str × V)), Flds K O H ds vs → Flds K O' H' ds vs
  | [], _, h => by unfold Flds at h ⊢; exact h
  | (x, d) :: ds, vs, h => by
    unfold Flds at h ⊢
    obtain ⟨v, r, e, q, t⟩ := h
    exact ⟨v, r, e, Rep.mono k d v q, Flds.mono k ds r t⟩

/-! shapes -/
theorem Rep.non_i {v : V} : Rep K O H .non v ↔ v = .non := by unfold Rep; exact Iff.rfl
theorem Rep.bl_i {b : Bool} {v : V} : Rep K O H (.bl b) v ↔ v = .bl b := by unfold Rep; exact Iff.rfl
theorem Rep.int_i {i : Int} {v : V} : Rep K O H (.int i) v ↔ v = .int i := by unfold Rep; exact Iff.rfl
theorem Rep.str_i {x : Str} {v : V} : Rep K O H (.str x) v ↔ v = .str x := by unfold Rep; exact Iff.rfl
theorem Rep.tup_i {ds : List D} {v : V} : Rep K O H (.tup ds) v ↔ ∃ a vs, v = .ref a ∧ H a = some (.tup vs) ∧ Reps K O H ds vs := by unfold Rep; exact Iff.rfl
theorem Rep.lst_i {ds : List D} {v : V} : Rep K O H (.lst ds) v ↔ ∃ a vs, v = .ref a ∧ a ∉ O ∧ H a = some (.lst vs) ∧ Reps K O H ds vs := by unfold Rep; exact Iff.rfl
theorem Rep.scr_i {ds : List D} {v : V} : Rep K O H (.scr ds) v ↔ ∃ a vs, v = .ref a ∧ SqF K H a vs ∧ Reps K O H ds vs := by unfold Rep; exact Iff.rfl
theorem Rep.res_i {i : Nat} {v : V} : Rep K O H (.res i) v ↔ ∃ a, v = .ref a ∧ O[i]? = some a := by unfold Rep; exact Iff.rfl
theorem Rep.exv_i {C : Addr} {v : V} : Rep K O H (.exv C) v ↔ ∃ a, v = .ref a ∧ H a = some (.ext (ExcO a C)) := by unfold Rep; exact Iff.rfl
theorem Reps.nil_i {vs : List V} : Reps K O H [] vs ↔ vs = [] := by unfold Reps; exact Iff.rfl
theorem Reps.cons_i {d : D} {ds : List D} {vs : List V} : Reps K O H (d :: ds) vs ↔ ∃ v r, vs = v :: r ∧ Rep K O H d v ∧ Reps K O H ds r := by
  constructor
  · intro h; unfold Reps at h; exact h
  · intro h; unfold Reps; exact h
theorem Reps.length : ∀ {ds : List D} {vs : List V}, Reps K O H ds vs → ds.length = vs.length
  | [], _, h => by rw [Reps.nil_i] at h; subst h; rfl
  | d :: ds, vs, h => by
    obtain ⟨v, r, rfl, _, t⟩ := Reps.cons_i.mp h
    rw [List.length_cons, List.length_cons, Reps.length t]
theorem Reps.get : ∀ {ds : List D} {vs : List V} {i : Nat} {d : D}, Reps K O H ds vs → ds[i]? = some d → ∃ v, vs[i]? = some v ∧ Rep K O H d v
  | [], _, i, d, _, e => by simp at e
  | x :: ds, vs, 0, d, h, e => by
    obtain ⟨v, r, rfl, q, _⟩ := Reps.cons_i.mp h
    simp at e; subst e
    exact ⟨v, rfl, q⟩
  | x :: ds, vs, i + 1, d, h, e => by
    obtain ⟨v, r, rfl, _, t⟩ := Reps.cons_i.mp h
    obtain ⟨u, e1, q⟩ := Reps.get (i := i) (d := d) t (by simpa using e)
    exact ⟨u, by simpa using e1, q⟩
theorem Reps.append : ∀ {ds es : List D} {vs us : List V}, Reps K O H ds vs → Reps K O H es us → Reps K O H (ds ++ es) (vs ++ us)
  | [], _, _, _, h, k => by rw [Reps.nil_i] at h; subst h; exact k
  | d :: ds, es, vs, us, h, k => by
    obtain ⟨v, r, rfl, q, t⟩ := Reps.cons_i.mp h
    exact Reps.cons_i.mpr ⟨v, r ++ us, rfl, q, Reps.append t k⟩
theorem Reps.take : ∀ {ds : List D} {vs : List V} (n : Nat), Reps K O H ds vs → Reps K O H (ds.take n) (vs.take n)
  | ds, vs, 0, _ => by rw [List.take_zero, List.take_zero]; exact Reps.nil_i.mpr rfl
  | [], vs, n + 1, h => by rw [Reps.nil_i] at h; subst h; exact Reps.nil_i.mpr rfl
  | d :: ds, vs, n + 1, h => by
    obtain ⟨v, r, rfl, q, t⟩ := Reps.cons_i.mp h
    exact Reps.cons_i.mpr ⟨v, r.take n, rfl, q, Reps.take n t⟩
theorem Reps.drop : ∀ {ds : List D} {vs : List V} (n : Nat), Reps K O H ds vs → Reps K O H (ds.drop n) (vs.drop n)
  | ds, vs, 0, h => by rw [List.drop_zero, List.drop_zero]; exact h
  | [], vs, n + 1, h => by rw [Reps.nil_i] at h; subst h; exact Reps.nil_i.mpr rfl
  | d :: ds, vs, n + 1, h => by
    obtain ⟨v, r, rfl, q, t⟩ := Reps.cons_i.mp h
    exact Reps.drop n t
theorem Reps.set {d : D} {v : V} (q : Rep K O H d v) : ∀ {ds : List D} {vs : List V} (n : Nat), Reps K O H ds vs → Reps K O H (ds.set n d) (vs.set n v)
  | [], vs, n, h => by rw [Reps.nil_i] at h; subst h; exact Reps.nil_i.mpr rfl
  | x :: ds, vs, 0, h => by
    obtain ⟨u, r, rfl, _, t⟩ := Reps.cons_i.mp h
    exact Reps.cons_i.mpr ⟨v, r, rfl, q, t⟩
  | x :: ds, vs, n + 1, h => by
    obtain ⟨u, r, rfl, q', t⟩ := Reps.cons_i.mp h
    exact Reps.cons_i.mpr ⟨u, r.set n v, rfl, q', Reps.set q n t⟩
theorem Reps.one {d : D} {v : V} (q : Rep K O H d v) : Reps K O H [d] [v] := Reps.cons_i.mpr ⟨v, [], rfl, q, Reps.nil_i.mpr rfl⟩
theorem Reps.rep {ds : List D} {vs : List V} (h : Reps K O H ds vs) : ∀ k : Nat, Reps K O H (List.replicate k ds).flatten (List.replicate k vs).flatten
  | 0 => by simp only [List.replicate_zero, List.flatten_nil]; exact Reps.nil_i.mpr rfl
  | k + 1 => by simp only [List.replicate_succ, List.flatten_cons]; exact Reps.append h (Reps.rep h k)

/-! heaps that grow, things that are written -/
/-- what may be a thing of the store -/
noncomputable def isS : HO → Bool
  | .lst _ => true
  | .ins _ _ _ => true
  | .dK _ => true
  | .dT _ => true
  | _ => false
theorem tup_upd {a p : Addr} {o : HO} {vs : List V} (h : H a = some (.tup vs)) (hp : H p = none ∨ ∃ o, H p = some o ∧ isS o = true) : upd H p o a = some (.tup vs) := by
  rw [upd_ne]
  · exact h
  · rintro rfl
    rcases hp with q | ⟨u, q, z⟩
    · rw [q] at h; cases h
    · rw [q] at h; cases h; cases z
theorem sqF_upd {a p : Addr} {o : HO} {vs : List V} (h : SqF K H a vs) (hp : H p = none ∨ ∃ o, H p = some o ∧ isS o = true) : SqF K (upd H p o) a vs := by
  rcases h with ⟨ob, h⟩ | h
  · refine .inl ⟨ob, ?_⟩
    rw [upd_ne]
    · exact h
    · rintro rfl
      rcases hp with q | ⟨u, q, z⟩
      · rw [q] at h; cases h
      · rw [q] at h; cases h; cases z
  · exact .inr h
/-- a new thing that is no place of the store -/
theorem Keep.laid {p : Addr} {o : HO} (hp : H p = none) : Keep K O H O (upd H p o) :=
  ⟨fun _ _ h => tup_upd h (.inl hp), fun a vs n h => ⟨n, by rw [upd_ne (ne_of_none h hp)]; exact h⟩, fun _ _ h => sqF_upd h (.inl hp), fun _ _ h => h, fun a C h => by rw [upd_ne (ne_of_none h hp)]; exact h⟩
theorem RepS.mono' (k : Keep K O H O' H') {a : Addr} (e : H' a = H a) : ∀ {s : S}, RepS K O H a s → RepS K O' H' a s
  | .lst ds, h => by
    obtain ⟨vs, q, r⟩ := h
    exact ⟨vs, by rw [e]; exact q, Reps.mono k _ _ r⟩
  | .ins C fs, h => by
    obtain ⟨dx, vs, q, r⟩ := h
    exact ⟨dx, vs, by rw [e]; exact q, Flds.mono k _ _ r⟩
  | .dct ds, h => by
    obtain ⟨vs, q, r⟩ := h
    exact ⟨vs, by rw [e]; exact q, Kvs.mono k _ _ r⟩
  | .dtt ds, h => by
    obtain ⟨vs, q, r⟩ := h
    exact ⟨vs, by rw [e]; exact q, Kvs.mono k _ _ r⟩
theorem RepS.some_of {a : Addr} : ∀ {s : S}, RepS K O H a s → ∃ o, H a = some o ∧ isS o = true
  | .lst ds, ⟨vs, q, _⟩ => ⟨_, q, rfl⟩
  | .ins C fs, ⟨dx, vs, q, _⟩ => ⟨_, q, rfl⟩
  | .dct ds, ⟨vs, q, _⟩ => ⟨_, q, rfl⟩
  | .dtt ds, ⟨vs, q, _⟩ => ⟨_, q, rfl⟩
theorem WR.some_of (W : WR K O H st) {i : Nat} {a : Addr} (h : O[i]? = some a) : ∃ o, H a = some o ∧ isS o = true := by
  have hi : i < st.length := by rw [← W.len]; exact (List.getElem?_eq_some_iff.mp h).1
  exact (W.at_ i a st[i] h (List.getElem?_eq_getElem hi)).some_of
theorem WR.ne (W : WR K O H st) {i : Nat} {a p : Addr} (h : O[i]? = some a) (hp : H p = none) : a ≠ p := by
  rintro rfl
  obtain ⟨_, q, _⟩ := W.some_of h
  rw [hp] at q
  cases q
theorem WR.laid (W : WR K O H st) {p : Addr} {o : HO} (hp : H p = none) : WR K O (upd H p o) st :=
  ⟨W.len, W.nd, fun i a s h1 h2 => (W.at_ i a s h1 h2).mono' (Keep.laid hp) (by rw [upd_ne (W.ne h1 hp)])⟩
/-- a new place of the store -/
theorem Keep.push {p : Addr} {o : HO} (hp : H p = none) : Keep K O H (O ++ [p]) (upd H p o) :=
  ⟨fun _ _ h => tup_upd h (.inl hp), fun a vs n h => ⟨fun hm => by
      rcases List.mem_append.mp hm with q | q
      · exact n q
      · rw [List.mem_singleton] at q; exact ne_of_none h hp q, by rw [upd_ne (ne_of_none h hp)]; exact h⟩,
    fun _ _ h => sqF_upd h (.inl hp), fun i a h => by rw [List.getElem?_append_left (List.getElem?_eq_some_iff.mp h).1]; exact h, fun a C h => by rw [upd_ne (ne_of_none h hp)]; exact h⟩
theorem WR.push' (W : WR K O H st) {p : Addr} {o : HO} {s : S} (hp : H p = none) (hs : RepS K (O ++ [p]) (upd H p o) p s) : WR K (O ++ [p]) (upd H p o) (st ++ [s]) := by
  refine ⟨by simp [W.len], ?_, fun i a s' h1 h2 => ?_⟩
  · refine List.nodup_append.mpr ⟨W.nd, by simp, fun a ha b hb => ?_⟩
    rw [List.mem_singleton] at hb
    subst hb
    obtain ⟨i, hi⟩ := List.mem_iff_getElem?.mp ha
    exact W.ne hi hp
  · by_cases hi : i < O.length
    · rw [List.getElem?_append_left hi] at h1
      rw [List.getElem?_append_left (by rw [← W.len]; exact hi)] at h2
      exact (W.at_ i a s' h1 h2).mono' (Keep.push hp) (by rw [upd_ne (W.ne h1 hp)])
    · rw [List.getElem?_append_right (by omega)] at h1
      rw [List.getElem?_append_right (by rw [← W.len]; omega)] at h2
      rw [← W.len] at h2
      have e0 : i - O.length = 0 := by
        have := (List.getElem?_eq_some_iff.mp h1).1
        simp at this
        omega
      rw [e0] at h1 h2
      simp at h1 h2
      subst h1 h2
      exact hs
theorem WR.push (W : WR K O H st) {p : Addr} {ds : List D} {vs : List V} (hp : H p = none) (r : Reps K O H ds vs) : WR K (O ++ [p]) (upd H p (.lst vs)) (st ++ [.lst ds]) :=
  W.push' hp ⟨vs, upd_same, Reps.mono (Keep.push hp) _ _ r⟩
theorem rep_last {p : Addr} {st : Sto} (e : O.length = st.length) : Rep K (O ++ [p]) H' (.res st.length) (.ref p) := by
  rw [Rep.res_i]
  exact ⟨p, rfl, by rw [← e, List.getElem?_append_right (Nat.le_refl _)]; simp⟩
/-- a place of the store is written -/
theorem Keep.write (W : WR K O H st) {i : Nat} {a : Addr} {o : HO} (h : O[i]? = some a) : Keep K O H O (upd H a o) := by
  have q := W.some_of h
  refine ⟨fun _ _ z => tup_upd z (.inr q), fun b vs n z => ⟨n, ?_⟩, fun _ _ z => sqF_upd z (.inr q), fun _ _ z => z, fun b C z => ?_⟩
  · rw [upd_ne]
    · exact z
    · rintro rfl
      exact n (List.mem_of_getElem? h)
  · rw [upd_ne]
    · exact z
    · rintro rfl
      obtain ⟨_, q, y⟩ := q
      rw [z] at q
      cases q
      cases y
theorem WR.write (W : WR K O H st) {i : Nat} {a : Addr} {o : HO} {s : S} (h : O[i]? = some a) (hs : RepS K O (upd H a o) a s) : WR K O (upd H a o) (st.set i s) := by
  refine ⟨by rw [List.length_set]; exact W.len, W.nd, fun j b s' h1 h2 => ?_⟩
  by_cases hj : i = j
  · subst hj
    rw [h] at h1
    cases h1
    have hi : i < st.length := by rw [← W.len]; exact (List.getElem?_eq_some_iff.mp h).1
    rw [List.getElem?_set_self hi] at h2
    cases h2
    exact hs
  · rw [List.getElem?_set_ne hj] at h2
    refine (W.at_ j b s' h1 h2).mono' (Keep.write W h) ?_
    rw [upd_ne]
    rintro rfl
    exact hj (nodup_at W.nd h h1)
theorem WR.writeL (W : WR K O H st) {i : Nat} {a : Addr} {ds : List D} {vs : List V} (h : O[i]? = some a) (r : Reps K O H ds vs) : WR K O (upd H a (.lst vs)) (st.set i (.lst ds)) :=
  W.write h ⟨vs, upd_same, Reps.mono (Keep.write W h) _ _ r⟩

/-! ### what is read -/
/-- the items of a list: the script, a list, a list of the store -/
noncomputable def seqL (st : Sto) : D → Option (List D)
  | .lst xs => some xs
  | .scr xs => some xs
  | .res i => match st[i]? with
    | some (.lst xs) => some xs
    | _ => none
  | _ => none
/-- .. but the script -/
noncomputable def ownL (st : Sto) : D → Option (List D)
  | .lst xs => some xs
  | .res i => match st[i]? with
    | some (.lst xs) => some xs
    | _ => none
  | _ => none
theorem rdO (W : WR K O H st) {d : D} {v : V} {ds : List D} (r : Rep K O H d v) (e : ownL st d = some ds) : ∃ a vs, v = .ref a ∧ H a = some (.lst vs) ∧ Reps K O H ds vs := by
  cases d with
  | lst xs =>
    rw [Rep.lst_i] at r
    obtain ⟨a, vs, rfl, _, q, t⟩ := r
    simp only [ownL, Option.some.injEq] at e
    subst e
    exact ⟨a, vs, rfl, q, t⟩
  | res i =>
    rw [Rep.res_i] at r
    obtain ⟨a, rfl, q⟩ := r
    have hi : i < st.length := by rw [← W.len]; exact (List.getElem?_eq_some_iff.mp q).1
    have z := W.at_ i a st[i] q (List.getElem?_eq_getElem hi)
    simp only [ownL, List.getElem?_eq_getElem hi] at e
    cases hs : st[i] with
    | lst xs =>
      rw [hs] at e z
      simp only [Option.some.injEq] at e
      subst e
      obtain ⟨vs, z1, z2⟩ := z
      exact ⟨a, vs, rfl, z1, z2⟩
    | _ => rw [hs] at e; cases e
  | _ => cases e
theorem rdL (W : WR K O H st) {d : D} {v : V} {ds : List D} (r : Rep K O H d v) (e : seqL st d = some ds) : ∃ a vs, v = .ref a ∧ SqL K H a vs ∧ Reps K O H ds vs := by
  cases d with
  | scr xs =>
    rw [Rep.scr_i] at r
    obtain ⟨a, vs, rfl, q, t⟩ := r
    simp only [seqL, Option.some.injEq] at e
    subst e
    exact ⟨a, vs, rfl, q.sq, t⟩
  | lst xs =>
    obtain ⟨a, vs, h1, h2, h3⟩ := rdO W r (show ownL st (.lst xs) = some ds from e)
    exact ⟨a, vs, h1, SqL.of h2, h3⟩
  | res i =>
    obtain ⟨a, vs, h1, h2, h3⟩ := rdO W r (show ownL st (.res i) = some ds from e)
    exact ⟨a, vs, h1, SqL.of h2, h3⟩
  | _ => cases e

/-! ### data are told apart by their values -/
section
variable {X : Cx} {pins : List (Addr × Obj)} {σ : L2.St} {s : Shared}
theorem K_none (I : Inv X pins σ H s) {a : Addr} {o : Obj} (h : X.K.lookup a = some o) : H a = none := (I.bs a o (I.ok.mod.kin a o h)).2
end
end
end DL

end
/-! DL2 -/
section
set_option Elab.async false
set_option linter.all false
set_option maxRecDepth 100000
/-! DL part 2: equality of data -/
namespace DL
open PySem PySem.Spec PyProof.Rows L2
/-- what == and != tell of two values -/
noncomputable def Ans (A : Around) (s : Shared) (u w : Value) (k : Bool) : Prop := SeqAt.EqAt A s u w k ∧ SeqAt.RcAt A s u w k ∧ SeqAt.RcNeAt A s u w (!k)
section
variable {A : Around} {s : Shared}
theorem eqc_non_non : Ans A s .none .none true := ⟨SeqAt.EqAt.same _, SeqAt.RcAt.none_none, SeqAt.RcNeAt.none_none⟩
theorem eqc_non_bl {b2 : Bool} : Ans A s .none (.bool b2) false := ⟨SeqAt.EqAt.none_bool _, SeqAt.RcAt.none_bool _, SeqAt.RcNeAt.none_bool _⟩
theorem eqc_non_int {i2 : Int} {t2 : Tok} : Ans A s .none (.int i2 t2) false := ⟨SeqAt.EqAt.none_int _ _, SeqAt.RcAt.none_int _ _, SeqAt.RcNeAt.none_int _ _⟩
theorem eqc_non_str {x2 : Str} {t2 : Tok} : Ans A s .none (.str x2 t2) false := ⟨SeqAt.EqAt.none_str _ _, SeqAt.RcAt.none_str _ _, SeqAt.RcNeAt.none_str _ _⟩
theorem eqc_non_tup {a2 : Addr} {its2 : Array Value} (z2 : s.heap.IsTuple a2 its2) (hu : A.units < cLine) : Ans A s .none (.ref a2) false := ⟨SeqAt.EqAt.none_tuple z2 hu, SeqAt.RcAt.none_tuple z2 hu, SeqAt.RcNeAt.none_tuple z2 hu⟩
theorem eqc_non_lst {a2 : Addr} {its2 : Array Value} (z2 : s.heap.IsList a2 its2) (hu : A.units < cLine) : Ans A s .none (.ref a2) false := ⟨SeqAt.EqAt.none_list z2 hu, SeqAt.RcAt.none_list z2 hu, SeqAt.RcNeAt.none_list z2 hu⟩
theorem eqc_bl_non {b1 : Bool} : Ans A s (.bool b1) .none false := ⟨SeqAt.EqAt.bool_none _, SeqAt.RcAt.bool_none _, SeqAt.RcNeAt.bool_none _⟩
theorem eqc_bl_bl {b1 : Bool} {b2 : Bool} : Ans A s (.bool b1) (.bool b2) (b1 == b2) := ⟨SeqAt.EqAt.bool_bool _ _, SeqAt.RcAt.bool_bool _ _, SeqAt.RcNeAt.bool_bool _ _⟩
theorem eqc_bl_int {b1 : Bool} {i2 : Int} {t2 : Tok} : Ans A s (.bool b1) (.int i2 t2) ((if b1 then 1 else 0) == i2) := ⟨SeqAt.EqAt.bool_int _ _ _, SeqAt.RcAt.bool_int _ _ _, SeqAt.RcNeAt.bool_int _ _ _⟩
theorem eqc_bl_str {b1 : Bool} {x2 : Str} {t2 : Tok} : Ans A s (.bool b1) (.str x2 t2) false := ⟨SeqAt.EqAt.bool_str _ _ _, SeqAt.RcAt.bool_str _ _ _, SeqAt.RcNeAt.bool_str _ _ _⟩
theorem eqc_bl_tup {b1 : Bool} {a2 : Addr} {its2 : Array Value} (z2 : s.heap.IsTuple a2 its2) (hu : A.units < cLine) : Ans A s (.bool b1) (.ref a2) false := ⟨SeqAt.EqAt.bool_tuple _ z2 hu, SeqAt.RcAt.bool_tuple _ z2 hu, SeqAt.RcNeAt.bool_tuple _ z2 hu⟩
theorem eqc_bl_lst {b1 : Bool} {a2 : Addr} {its2 : Array Value} (z2 : s.heap.IsList a2 its2) (hu : A.units < cLine) : Ans A s (.bool b1) (.ref a2) false := ⟨SeqAt.EqAt.bool_list _ z2 hu, SeqAt.RcAt.bool_list _ z2 hu, SeqAt.RcNeAt.bool_list _ z2 hu⟩
theorem eqc_int_non {i1 : Int} {t1 : Tok} : Ans A s (.int i1 t1) .none false := ⟨SeqAt.EqAt.int_none _ _, SeqAt.RcAt.int_none _ _, SeqAt.RcNeAt.int_none _ _⟩
theorem eqc_int_bl {i1 : Int} {t1 : Tok} {b2 : Bool} : Ans A s (.int i1 t1) (.bool b2) (i1 == (if b2 then 1 else 0)) := ⟨SeqAt.EqAt.int_bool _ _ _, SeqAt.RcAt.int_bool _ _ _, SeqAt.RcNeAt.int_bool _ _ _⟩
theorem eqc_int_int {i1 : Int} {t1 : Tok} {i2 : Int} {t2 : Tok} : Ans A s (.int i1 t1) (.int i2 t2) (i1 == i2) := ⟨SeqAt.EqAt.int_int _ _ _ _, SeqAt.RcAt.int_int _ _ _ _, SeqAt.RcNeAt.int_int _ _ _ _⟩
theorem eqc_int_str {i1 : Int} {t1 : Tok} {x2 : Str} {t2 : Tok} : Ans A s (.int i1 t1) (.str x2 t2) false := ⟨SeqAt.EqAt.int_str _ _ _ _, SeqAt.RcAt.int_str _ _ _ _, SeqAt.RcNeAt.int_str _ _ _ _⟩
theorem eqc_int_tup {i1 : Int} {t1 : Tok} {a2 : Addr} {its2 : Array Value} (z2 : s.heap.IsTuple a2 its2) (hu : A.units < cLine) : Ans A s (.int i1 t1) (.ref a2) false := ⟨SeqAt.EqAt.int_tuple _ _ z2 hu, SeqAt.RcAt.int_tuple _ _ z2 hu, SeqAt.RcNeAt.int_tuple _ _ z2 hu⟩
theorem eqc_int_lst {i1 : Int} {t1 : Tok} {a2 : Addr} {its2 : Array Value} (z2 : s.heap.IsList a2 its2) (hu : A.units < cLine) : Ans A s (.int i1 t1) (.ref a2) false := ⟨SeqAt.EqAt.int_list _ _ z2 hu, SeqAt.RcAt.int_list _ _ z2 hu, SeqAt.RcNeAt.int_list _ _ z2 hu⟩
theorem eqc_str_non {x1 : Str} {t1 : Tok} : Ans A s (.str x1 t1) .none false := ⟨SeqAt.EqAt.str_none _ _, SeqAt.RcAt.str_none _ _, SeqAt.RcNeAt.str_none _ _⟩
theorem eqc_str_bl {x1 : Str} {t1 : Tok} {b2 : Bool} : Ans A s (.str x1 t1) (.bool b2) false := ⟨SeqAt.EqAt.str_bool _ _ _, SeqAt.RcAt.str_bool _ _ _, SeqAt.RcNeAt.str_bool _ _ _⟩
theorem eqc_str_int {x1 : Str} {t1 : Tok} {i2 : Int} {t2 : Tok} : Ans A s (.str x1 t1) (.int i2 t2) false := ⟨SeqAt.EqAt.str_int _ _ _ _, SeqAt.RcAt.str_int _ _ _ _, SeqAt.RcNeAt.str_int _ _ _ _⟩
theorem eqc_str_str {x1 : Str} {t1 : Tok} {x2 : Str} {t2 : Tok} : Ans A s (.str x1 t1) (.str x2 t2) (x1 == x2) := ⟨SeqAt.EqAt.str_str _ _ _ _, SeqAt.RcAt.str_str _ _ _ _, SeqAt.RcNeAt.str_str _ _ _ _⟩
theorem eqc_str_tup {x1 : Str} {t1 : Tok} {a2 : Addr} {its2 : Array Value} (z2 : s.heap.IsTuple a2 its2) (hu : A.units < cLine) : Ans A s (.str x1 t1) (.ref a2) false := ⟨SeqAt.EqAt.str_tuple _ _ z2 hu, SeqAt.RcAt.str_tuple _ _ z2 hu, SeqAt.RcNeAt.str_tuple _ _ z2 hu⟩
theorem eqc_str_lst {x1 : Str} {t1 : Tok} {a2 : Addr} {its2 : Array Value} (z2 : s.heap.IsList a2 its2) (hu : A.units < cLine) : Ans A s (.str x1 t1) (.ref a2) false := ⟨SeqAt.EqAt.str_list _ _ z2 hu, SeqAt.RcAt.str_list _ _ z2 hu, SeqAt.RcNeAt.str_list _ _ z2 hu⟩
theorem eqc_tup_non {a1 : Addr} {its1 : Array Value} (z1 : s.heap.IsTuple a1 its1) (hu : A.units < cLine) : Ans A s (.ref a1) .none false := ⟨SeqAt.EqAt.tuple_none z1 hu, SeqAt.RcAt.tuple_none z1 hu, SeqAt.RcNeAt.tuple_none z1 hu⟩
theorem eqc_tup_bl {a1 : Addr} {its1 : Array Value} (z1 : s.heap.IsTuple a1 its1) {b2 : Bool} (hu : A.units < cLine) : Ans A s (.ref a1) (.bool b2) false := ⟨SeqAt.EqAt.tuple_bool _ z1 hu, SeqAt.RcAt.tuple_bool _ z1 hu, SeqAt.RcNeAt.tuple_bool _ z1 hu⟩
theorem eqc_tup_int {a1 : Addr} {its1 : Array Value} (z1 : s.heap.IsTuple a1 its1) {i2 : Int} {t2 : Tok} (hu : A.units < cLine) : Ans A s (.ref a1) (.int i2 t2) false := ⟨SeqAt.EqAt.tuple_int _ _ z1 hu, SeqAt.RcAt.tuple_int _ _ z1 hu, SeqAt.RcNeAt.tuple_int _ _ z1 hu⟩
theorem eqc_tup_str {a1 : Addr} {its1 : Array Value} (z1 : s.heap.IsTuple a1 its1) {x2 : Str} {t2 : Tok} (hu : A.units < cLine) : Ans A s (.ref a1) (.str x2 t2) false := ⟨SeqAt.EqAt.tuple_str _ _ z1 hu, SeqAt.RcAt.tuple_str _ _ z1 hu, SeqAt.RcNeAt.tuple_str _ _ z1 hu⟩
theorem eqc_tup_lst {a1 : Addr} {its1 : Array Value} (z1 : s.heap.IsTuple a1 its1) {a2 : Addr} {its2 : Array Value} (z2 : s.heap.IsList a2 its2) (hu : A.units < cLine) : Ans A s (.ref a1) (.ref a2) false := ⟨SeqAt.EqAt.tuple_list z1 z2 hu, SeqAt.RcAt.tuple_list z1 z2 hu, SeqAt.RcNeAt.tuple_list z1 z2 hu⟩
theorem eqc_lst_non {a1 : Addr} {its1 : Array Value} (z1 : s.heap.IsList a1 its1) (hu : A.units < cLine) : Ans A s (.ref a1) .none false := ⟨SeqAt.EqAt.list_none z1 hu, SeqAt.RcAt.list_none z1 hu, SeqAt.RcNeAt.list_none z1 hu⟩
theorem eqc_lst_bl {a1 : Addr} {its1 : Array Value} (z1 : s.heap.IsList a1 its1) {b2 : Bool} (hu : A.units < cLine) : Ans A s (.ref a1) (.bool b2) false := ⟨SeqAt.EqAt.list_bool _ z1 hu, SeqAt.RcAt.list_bool _ z1 hu, SeqAt.RcNeAt.list_bool _ z1 hu⟩
theorem eqc_lst_int {a1 : Addr} {its1 : Array Value} (z1 : s.heap.IsList a1 its1) {i2 : Int} {t2 : Tok} (hu : A.units < cLine) : Ans A s (.ref a1) (.int i2 t2) false := ⟨SeqAt.EqAt.list_int _ _ z1 hu, SeqAt.RcAt.list_int _ _ z1 hu, SeqAt.RcNeAt.list_int _ _ z1 hu⟩
theorem eqc_lst_str {a1 : Addr} {its1 : Array Value} (z1 : s.heap.IsList a1 its1) {x2 : Str} {t2 : Tok} (hu : A.units < cLine) : Ans A s (.ref a1) (.str x2 t2) false := ⟨SeqAt.EqAt.list_str _ _ z1 hu, SeqAt.RcAt.list_str _ _ z1 hu, SeqAt.RcNeAt.list_str _ _ z1 hu⟩
theorem eqc_lst_tup {a1 : Addr} {its1 : Array Value} (z1 : s.heap.IsList a1 its1) {a2 : Addr} {its2 : Array Value} (z2 : s.heap.IsTuple a2 its2) (hu : A.units < cLine) : Ans A s (.ref a1) (.ref a2) false := ⟨SeqAt.EqAt.list_tuple z1 z2 hu, SeqAt.RcAt.list_tuple z1 z2 hu, SeqAt.RcNeAt.list_tuple z1 z2 hu⟩
end
inductive Kd where
  | non | bl (b : Bool) | int (i : Int) | str (x : Str) | tup (xs : List D) | lst (xs : List D) | no
noncomputable def kd (st : Sto) : D → Kd
  | .non => .non
  | .bl b => .bl b
  | .int i => .int i
  | .str x => .str x
  | .tup xs => .tup xs
  | .lst xs => .lst xs
  | .scr xs => .lst xs
  | .res i => match st[i]? with
    | some (.lst xs) => .lst xs
    | _ => .no
  | .exv _ => .no
noncomputable def eqItems (f : D → D → Option Bool) : List D → List D → Option Bool
  | [], [] => some true
  | [], _ :: _ => some false
  | _ :: _, [] => some false
  | x :: xs, y :: ys => match f x y, eqItems f xs ys with
    | some a, some b => some (a && b)
    | _, _ => none
/-- == of data, n deep -/
noncomputable def eqN (st : Sto) : Nat → D → D → Option Bool
  | 0, _, _ => none
  | n + 1, a, b => match kd st a, kd st b with
    | .tup xs, .tup ys => eqItems (eqN st n) xs ys
    | .lst xs, .lst ys => eqItems (eqN st n) xs ys
    | .non, .non => some true
    | .bl x, .bl y => some (x == y)
    | .int x, .int y => some (x == y)
    | .str x, .str y => some (x == y)
    | .bl x, .int y => some ((if x then 1 else 0) == y)
    | .int x, .bl y => some (x == (if y then 1 else 0))
    | .no, _ => none
    | _, .no => none
    | _, _ => some false
section
variable {X : Cx} {pins : List (Addr × Obj)} {σ : L2.St} {s : Shared} {O : List Addr} {H : Hp} {st : Sto}
theorem sqT_lst (I : Inv X pins σ H s) {a : Addr} {vs xs : List V} (h : SqT X.K H a vs) (q : H a = some (.lst xs)) : False := by
  rcases h with (h | ⟨ob, h⟩) | ⟨o, _, _, h, _⟩
  · rw [h] at q; cases q
  · rw [h] at q; cases q
  · rw [K_none I h] at q; cases q
theorem sqF_lst (I : Inv X pins σ H s) {a : Addr} {vs xs : List V} (h : SqF X.K H a vs) (q : H a = some (.lst xs)) : False := by
  rcases h with ⟨ob, h⟩ | ⟨o, _, _, h, _⟩
  · rw [h] at q; cases q
  · rw [K_none I h] at q; cases q
theorem sqT_sqF (I : Inv X pins σ H s) {a : Addr} {vs xs : List V} (h : SqT X.K H a vs) (q : SqF X.K H a xs) : False := by
  rcases h with (h | ⟨ob, h⟩) | ⟨o, _, _, h, c, _⟩ <;> rcases q with ⟨ob', q⟩ | ⟨o', _, _, q, c', _⟩
  · rw [h] at q; cases q
  · rw [K_none I q] at h; cases h
  · rw [h] at q; cases q
  · rw [K_none I q] at h; cases h
  · rw [K_none I h] at q; cases q
  · rw [h] at q; cases q; rw [c] at c'; exact absurd (Value.type.inj c') (by decide)
theorem sqT_S (I : Inv X pins σ H s) {a : Addr} {vs : List V} {o : HO} (h : SqT X.K H a vs) (q : H a = some o) (z : isS o = true) : False := by
  rcases h with (h | ⟨ob, h⟩) | ⟨_, _, _, h, _⟩
  · rw [h] at q; cases q; cases z
  · rw [h] at q; cases q; cases z
  · rw [K_none I h] at q; cases q
theorem sqF_S (I : Inv X pins σ H s) {a : Addr} {vs : List V} {o : HO} (h : SqF X.K H a vs) (q : H a = some o) (z : isS o = true) : False := by
  rcases h with ⟨ob, h⟩ | ⟨_, _, _, h, _⟩
  · rw [h] at q; cases q; cases z
  · rw [K_none I h] at q; cases q
theorem sqT_ext (I : Inv X pins σ H s) {a : Addr} {vs : List V} {φ : Heap → Prop} (h : SqT X.K H a vs) (q : H a = some (.ext φ)) : False := by
  rcases h with (h | ⟨ob, h⟩) | ⟨_, _, _, h, _⟩
  · rw [h] at q; cases q
  · rw [h] at q; cases q
  · rw [K_none I h] at q; cases q
theorem sqF_ext (I : Inv X pins σ H s) {a : Addr} {vs : List V} {φ : Heap → Prop} (h : SqF X.K H a vs) (q : H a = some (.ext φ)) : False := by
  rcases h with ⟨ob, h⟩ | ⟨_, _, _, h, _⟩
  · rw [h] at q; cases q
  · rw [K_none I h] at q; cases q
theorem res_T (I : Inv X pins σ H s) (W : WR X.K O H st) {i : Nat} {a : Addr} {vs : List V} (h : O[i]? = some a) (q : SqT X.K H a vs) : False := by
  obtain ⟨o, z, y⟩ := W.some_of h
  exact sqT_S I q z y
theorem res_F (I : Inv X pins σ H s) (W : WR X.K O H st) {i : Nat} {a : Addr} {vs : List V} (h : O[i]? = some a) (q : SqF X.K H a vs) : False := by
  obtain ⟨o, z, y⟩ := W.some_of h
  exact sqF_S I q z y
theorem res_ext (W : WR X.K O H st) {i : Nat} {a : Addr} {φ : Heap → Prop} (h : O[i]? = some a) (q : H a = some (.ext φ)) : False := by
  obtain ⟨o, z, y⟩ := W.some_of h
  rw [q] at z
  cases z
  cases y
mutual
theorem Rep.inj (I : Inv X pins σ H s) (W : WR X.K O H st) : ∀ (d d' : D) (v : V), Rep X.K O H d v → Rep X.K O H d' v → d = d'
  | .non, d', v, h, h' => by
    rw [Rep.non_i] at h; subst h
    cases d' <;> unfold Rep at h' <;> first | rfl | (cases h'; done) | (obtain ⟨_, _, e, _⟩ := h'; cases e) | (obtain ⟨_, e, _⟩ := h'; cases e)
  | .bl b, d', v, h, h' => by
    rw [Rep.bl_i] at h; subst h
    cases d' <;> unfold Rep at h' <;> first | (cases h'; rfl) | (cases h'; done) | (obtain ⟨_, _, e, _⟩ := h'; cases e) | (obtain ⟨_, e, _⟩ := h'; cases e)
  | .int b, d', v, h, h' => by
    rw [Rep.int_i] at h; subst h
    cases d' <;> unfold Rep at h' <;> first | (cases h'; rfl) | (cases h'; done) | (obtain ⟨_, _, e, _⟩ := h'; cases e) | (obtain ⟨_, e, _⟩ := h'; cases e)
  | .str b, d', v, h, h' => by
    rw [Rep.str_i] at h; subst h
    cases d' <;> unfold Rep at h' <;> first | (cases h'; rfl) | (cases h'; done) | (obtain ⟨_, _, e, _⟩ := h'; cases e) | (obtain ⟨_, e, _⟩ := h'; cases e)
  | .tup ds, d', v, h, h' => by
    rw [Rep.tup_i] at h
    obtain ⟨a, vs, rfl, q, r⟩ := h
    cases d' with
    | tup ds' =>
      rw [Rep.tup_i] at h'
      obtain ⟨a', vs', e, q', r'⟩ := h'
      cases e
      have ev : vs = vs' := I.tuple_inj (SqT.of q) (SqT.of q')
      subst ev
      rw [Reps.inj I W ds ds' vs r r']
    | lst ds' => rw [Rep.lst_i] at h'; obtain ⟨a', vs', e, _, q', _⟩ := h'; cases e; exact (sqT_lst I (SqT.of q) q').elim
    | scr ds' => rw [Rep.scr_i] at h'; obtain ⟨a', vs', e, q', _⟩ := h'; cases e; exact (sqT_sqF I (SqT.of q) q').elim
    | res i => rw [Rep.res_i] at h'; obtain ⟨a', e, q'⟩ := h'; cases e; exact (res_T I W q' (SqT.of q)).elim
    | exv C => rw [Rep.exv_i] at h'; obtain ⟨a', e, q'⟩ := h'; cases e; exact (sqT_ext I (SqT.of q) q').elim
    | _ => unfold Rep at h'; cases h'
  | .lst ds, d', v, h, h' => by
    rw [Rep.lst_i] at h
    obtain ⟨a, vs, rfl, n, q, r⟩ := h
    cases d' with
    | tup ds' => rw [Rep.tup_i] at h'; obtain ⟨a', vs', e, q', _⟩ := h'; cases e; exact (sqT_lst I (SqT.of q') q).elim
    | lst ds' =>
      rw [Rep.lst_i] at h'
      obtain ⟨a', vs', e, _, q', r'⟩ := h'
      cases e
      rw [q] at q'
      cases q'
      rw [Reps.inj I W ds ds' vs r r']
    | scr ds' => rw [Rep.scr_i] at h'; obtain ⟨a', vs', e, q', _⟩ := h'; cases e; exact (sqF_lst I q' q).elim
    | res i => rw [Rep.res_i] at h'; obtain ⟨a', e, q'⟩ := h'; cases e; exact (n (List.mem_of_getElem? q')).elim
    | exv C => rw [Rep.exv_i] at h'; obtain ⟨a', e, q'⟩ := h'; cases e; rw [q] at q'; cases q'
    | _ => unfold Rep at h'; cases h'
  | .scr ds, d', v, h, h' => by
    rw [Rep.scr_i] at h
    obtain ⟨a, vs, rfl, q, r⟩ := h
    cases d' with
    | tup ds' => rw [Rep.tup_i] at h'; obtain ⟨a', vs', e, q', _⟩ := h'; cases e; exact (sqT_sqF I (SqT.of q') q).elim
    | lst ds' => rw [Rep.lst_i] at h'; obtain ⟨a', vs', e, _, q', _⟩ := h'; cases e; exact (sqF_lst I q q').elim
    | scr ds' =>
      rw [Rep.scr_i] at h'
      obtain ⟨a', vs', e, q', r'⟩ := h'
      cases e
      have ev : vs = vs' := I.list_inj q.sq q'.sq
      subst ev
      rw [Reps.inj I W ds ds' vs r r']
    | res i => rw [Rep.res_i] at h'; obtain ⟨a', e, q'⟩ := h'; cases e; exact (res_F I W q' q).elim
    | exv C => rw [Rep.exv_i] at h'; obtain ⟨a', e, q'⟩ := h'; cases e; exact (sqF_ext I q q').elim
    | _ => unfold Rep at h'; cases h'
  | .res i, d', v, h, h' => by
    rw [Rep.res_i] at h
    obtain ⟨a, rfl, q⟩ := h
    cases d' with
    | tup ds' => rw [Rep.tup_i] at h'; obtain ⟨a', vs', e, q', _⟩ := h'; cases e; exact (res_T I W q (SqT.of q')).elim
    | lst ds' => rw [Rep.lst_i] at h'; obtain ⟨a', vs', e, n, _, _⟩ := h'; cases e; exact (n (List.mem_of_getElem? q)).elim
    | scr ds' => rw [Rep.scr_i] at h'; obtain ⟨a', vs', e, q', _⟩ := h'; cases e; exact (res_F I W q q').elim
    | res j =>
      rw [Rep.res_i] at h'
      obtain ⟨a', e, q'⟩ := h'
      cases e
      rw [nodup_at W.nd q q']
    | exv C => rw [Rep.exv_i] at h'; obtain ⟨a', e, q'⟩ := h'; cases e; exact (res_ext W q q').elim
    | _ => unfold Rep at h'; cases h'
  | .exv C, d', v, h, h' => by
    rw [Rep.exv_i] at h
    obtain ⟨a, rfl, q⟩ := h
    cases d' with
    | tup ds' => rw [Rep.tup_i] at h'; obtain ⟨a', vs', e, q', _⟩ := h'; cases e; exact (sqT_ext I (SqT.of q') q).elim
    | lst ds' => rw [Rep.lst_i] at h'; obtain ⟨a', vs', e, n, q', _⟩ := h'; cases e; rw [q] at q'; cases q'
    | scr ds' => rw [Rep.scr_i] at h'; obtain ⟨a', vs', e, q', _⟩ := h'; cases e; exact (sqF_ext I q' q).elim
    | res j => rw [Rep.res_i] at h'; obtain ⟨a', e, q'⟩ := h'; cases e; exact (res_ext W q' q).elim
    | exv C' =>
      rw [Rep.exv_i] at h'
      obtain ⟨a', e, q'⟩ := h'
      cases e
      rw [(I.hok _ _ q).1.inj (I.hok _ _ q').1]
    | _ => unfold Rep at h'; cases h'
theorem Reps.inj (I : Inv X pins σ H s) (W : WR X.K O H st) : ∀ (ds ds' : List D) (vs : List V), Reps X.K O H ds vs → Reps X.K O H ds' vs → ds = ds'
  | [], ds', vs, h, h' => by
    rw [Reps.nil_i] at h; subst h
    cases ds' with
    | nil => rfl
    | cons d r => obtain ⟨_, _, e, _⟩ := Reps.cons_i.mp h'; cases e
  | d :: ds, ds', vs, h, h' => by
    obtain ⟨v, r, rfl, q, t⟩ := Reps.cons_i.mp h
    cases ds' with
    | nil => rw [Reps.nil_i] at h'; cases h'
    | cons d' r' =>
      obtain ⟨v', r2, e, q', t'⟩ := Reps.cons_i.mp h'
      cases e
      rw [Rep.inj I W d d' v q q', Reps.inj I W ds r' r t t']
end
theorem eqItems_refl {f : D → D → Option Bool} (hf : ∀ d k, f d d = some k → k = true) : ∀ (xs : List D) (k : Bool), eqItems f xs xs = some k → k = true
  | [], k, h => by simp only [eqItems, Option.some.injEq] at h; exact h.symm
  | x :: xs, k, h => by
    unfold eqItems at h
    cases e1 : f x x with
    | none => rw [e1] at h; cases h
    | some a =>
      cases e2 : eqItems f xs xs with
      | none => rw [e1, e2] at h; cases h
      | some b =>
        rw [e1, e2] at h
        simp only [Option.some.injEq] at h
        rw [← h, hf x a e1, eqItems_refl hf xs b e2]
        rfl
theorem eqN_refl : ∀ (n : Nat) (d : D) (k : Bool), eqN st n d d = some k → k = true
  | 0, d, k, h => by cases h
  | n + 1, d, k, h => by
    unfold eqN at h
    cases e : kd st d <;> rw [e] at h <;> simp only [beq_self_eq_true, Option.some.injEq] at h
    case tup xs => exact eqItems_refl (eqN_refl n) xs k h
    case lst xs => exact eqItems_refl (eqN_refl n) xs k h
    case no => cases h
    all_goals exact h.symm
theorem eqItems_len {f : D → D → Option Bool} : ∀ (xs ys : List D) (k : Bool), eqItems f xs ys = some k →
    (∀ (j : Nat) (x y : D), xs[j]? = some x → ys[j]? = some y → ∃ kj, f x y = some kj) ∧
    k = ((List.range (min xs.length ys.length)).all (fun j => ((xs[j]?.bind fun x => ys[j]?.bind fun y => f x y).getD false)) && xs.length == ys.length)
  | [], [], k, h => by
    simp only [eqItems, Option.some.injEq] at h
    subst h
    exact ⟨fun j x y e => by simp at e, rfl⟩
  | [], y :: ys, k, h => by
    simp only [eqItems, Option.some.injEq] at h
    subst h
    exact ⟨fun j x y e => by simp at e, by simp⟩
  | x :: xs, [], k, h => by
    simp only [eqItems, Option.some.injEq] at h
    subst h
    exact ⟨fun j x y _ e => by simp at e, by simp⟩
  | x :: xs, y :: ys, k, h => by
    unfold eqItems at h
    cases e1 : f x y with
    | none => rw [e1] at h; cases h
    | some a =>
      cases e2 : eqItems f xs ys with
      | none => rw [e1, e2] at h; cases h
      | some b =>
        rw [e1, e2] at h
        simp only [Option.some.injEq] at h
        obtain ⟨h1, h2⟩ := eqItems_len xs ys b e2
        refine ⟨fun j u w eu ew => ?_, ?_⟩
        · cases j with
          | zero => simp at eu ew; subst eu ew; exact ⟨a, e1⟩
          | succ j => exact h1 j u w (by simpa using eu) (by simpa using ew)
        · rw [← h, h2]
          have em : min (x :: xs).length (y :: ys).length = min xs.length ys.length + 1 := by simp only [List.length_cons]; omega
          rw [em, List.range_succ_eq_map]
          simp only [List.all_cons, List.all_map, List.getElem?_cons_zero, Option.bind_some, e1, Option.getD_some, List.length_cons, Function.comp_def, List.getElem?_cons_succ, Nat.succ_eq_add_one, Bool.and_assoc]
          congr 2
          by_cases hl : xs.length = ys.length
          · simp [hl]
          · have : ¬ (xs.length + 1 = ys.length + 1) := by omega
            simp [hl]
/-- the value by its kind -/
noncomputable def KdV (K : PySem.W.Frag) (O : List Addr) (H : Hp) (s : Shared) : Kd → Value → Prop
  | .non, u => u = .none
  | .bl b, u => u = .bool b
  | .int i, u => ∃ t, u = .int i t
  | .str x, u => ∃ t, u = .str x t
  | .tup xs, u => ∃ a vs its, u = .ref a ∧ Reps K O H xs vs ∧ Vals vs its ∧ s.heap.IsTuple a its.toArray
  | .lst xs, u => ∃ a vs its, u = .ref a ∧ Reps K O H xs vs ∧ Vals vs its ∧ s.heap.IsList a its.toArray
  | .no, _ => True
theorem kdV_lst (I : Inv X pins σ H s) (W : WR X.K O H st) {d : D} {v : V} {u : Value} {xs : List D} (r : Rep X.K O H d v) (q : RelV v u) (e : seqL st d = some xs) : KdV X.K O H s (.lst xs) u := by
  obtain ⟨a, vs, rfl, z, t⟩ := rdL W r e
  obtain ⟨its, hv, hp, _⟩ := I.list z
  have q' : u = Value.ref a := q
  subst q'
  exact ⟨a, vs, its, rfl, t, hv, hp.isList⟩
theorem kdV (I : Inv X pins σ H s) (W : WR X.K O H st) : ∀ {d : D} {v : V} {u : Value}, Rep X.K O H d v → RelV v u → KdV X.K O H s (kd st d) u
  | .non, v, u, r, q => by rw [Rep.non_i] at r; subst r; exact q
  | .bl b, v, u, r, q => by rw [Rep.bl_i] at r; subst r; exact q
  | .int b, v, u, r, q => by rw [Rep.int_i] at r; subst r; exact q
  | .str b, v, u, r, q => by rw [Rep.str_i] at r; subst r; exact q
  | .tup ds, v, u, r, q => by
    rw [Rep.tup_i] at r
    obtain ⟨a, vs, rfl, z, t⟩ := r
    obtain ⟨its, hv, hp, _⟩ := I.tuple (SqT.of z)
    have q' : u = Value.ref a := q
    subst q'
    exact ⟨a, vs, its, rfl, t, hv, hp⟩
  | .lst ds, v, u, r, q => kdV_lst I W r q rfl
  | .scr ds, v, u, r, q => kdV_lst I W r q rfl
  | .res i, v, u, r, q => by
    have e : seqL st (.res i) = match st[i]? with
      | some (.lst xs) => some xs
      | _ => none := rfl
    have e' : kd st (.res i) = match st[i]? with
      | some (.lst xs) => .lst xs
      | _ => .no := rfl
    rw [e']
    cases hs : st[i]? with
    | none => exact trivial
    | some so =>
      cases so with
      | ins C fs => exact trivial
      | dct kvs => exact trivial
      | dtt kvs => exact trivial
      | lst xs =>
        rw [hs] at e
        exact kdV_lst I W r q e
  | .exv C, v, u, r, q => trivial
theorem in1_units (A : Around) : A.in1.units = A.units + 1 := rfl
theorem eq_sound (I : Inv X pins σ H s) (W : WR X.K O H st) : ∀ (n : Nat) (a b : D) (k : Bool), eqN st n a b = some k → ∀ (A : Around) (x y : V) (u w : Value),
    Rep X.K O H a x → Rep X.K O H b y → RelV x u → RelV y w → A.units + n < cLine → Ans A s u w k
  | 0, a, b, k, h => by cases h
  | n + 1, a, b, k, h => by
    intro A x y u w ra rb qa qb hn
    have hu : A.units < cLine := by omega
    have same : u = w → k = true := by
      intro e
      subst e
      have e2 : x = y := qa.inj qb
      subst e2
      have e3 := Rep.inj I W a b x ra rb
      subst e3
      exact eqN_refl (n + 1) a k h
    have ka := kdV I W ra qa
    have kb := kdV I W rb qb
    have items : ∀ {xs ys : List D} {vs ws : List V} {its its2 : List Value}, eqItems (eqN st n) xs ys = some k → Reps X.K O H xs vs → Reps X.K O H ys ws → Vals vs its → Vals ws its2 →
        (∀ j (h1 : j < its.toArray.size) (h2 : j < its2.toArray.size), SeqAt.EqAt A.in1 s its.toArray[j] its2.toArray[j] ((xs[j]?.bind fun x => ys[j]?.bind fun y => eqN st n x y).getD false)) ∧
        k = ((List.range (min its.toArray.size its2.toArray.size)).all (fun j => ((xs[j]?.bind fun x => ys[j]?.bind fun y => eqN st n x y).getD false)) && its.toArray.size == its2.toArray.size) := by
      intro xs ys vs ws its its2 he r1 r2 v1 v2
      obtain ⟨h1, h2⟩ := eqItems_len xs ys k he
      have l1 : its.toArray.size = xs.length := by rw [List.size_toArray, ← v1.length, r1.length]
      have l2 : its2.toArray.size = ys.length := by rw [List.size_toArray, ← v2.length, r2.length]
      refine ⟨fun j j1 j2 => ?_, by rw [l1, l2]; exact h2⟩
      have j1' : j < xs.length := by rw [← l1]; exact j1
      have j2' : j < ys.length := by rw [← l2]; exact j2
      have ex : xs[j]? = some xs[j] := List.getElem?_eq_getElem j1'
      have ey : ys[j]? = some ys[j] := List.getElem?_eq_getElem j2'
      obtain ⟨kj, ek⟩ := h1 j xs[j] ys[j] ex ey
      obtain ⟨vx, e3, rx⟩ := r1.get ex
      obtain ⟨vy, e4, ry⟩ := r2.get ey
      obtain ⟨ux, e5, qx⟩ := v1.get e3
      obtain ⟨uy, e6, qy⟩ := v2.get e4
      have e7 : its.toArray[j] = ux := by
        have := (List.getElem?_eq_some_iff.mp e5).2
        simpa using this
      have e8 : its2.toArray[j] = uy := by
        have := (List.getElem?_eq_some_iff.mp e6).2
        simpa using this
      rw [ex, ey, e7, e8]
      simp only [Option.bind_some, ek, Option.getD_some]
      exact (eq_sound I W n xs[j] ys[j] kj ek A.in1 vx vy ux uy rx ry qx qy (by rw [in1_units]; omega)).1
    unfold eqN at h
    generalize kd st a = da at h ka
    generalize kd st b = db at h kb
    cases da with
    | no => cases db <;> cases h
    | non =>
      cases db with
      | no => cases h
      | non =>
        have e1 : u = _ := ka
        subst e1
        have e2 : w = _ := kb
        subst e2
        cases h
        exact eqc_non_non 
      | bl b2 =>
        have e1 : u = _ := ka
        subst e1
        have e2 : w = _ := kb
        subst e2
        cases h
        exact eqc_non_bl 
      | int i2 =>
        have e1 : u = _ := ka
        subst e1
        obtain ⟨t2, rfl⟩ := kb
        cases h
        exact eqc_non_int 
      | str x2 =>
        have e1 : u = _ := ka
        subst e1
        obtain ⟨t2, rfl⟩ := kb
        cases h
        exact eqc_non_str 
      | tup ys =>
        have e1 : u = _ := ka
        subst e1
        obtain ⟨a2, vs2, its2, rfl, r2, q2, z2⟩ := kb
        cases h
        exact eqc_non_tup z2 hu
      | lst ys =>
        have e1 : u = _ := ka
        subst e1
        obtain ⟨a2, vs2, its2, rfl, r2, q2, z2⟩ := kb
        cases h
        exact eqc_non_lst z2 hu
    | bl b1 =>
      cases db with
      | no => cases h
      | non =>
        have e1 : u = _ := ka
        subst e1
        have e2 : w = _ := kb
        subst e2
        cases h
        exact eqc_bl_non 
      | bl b2 =>
        have e1 : u = _ := ka
        subst e1
        have e2 : w = _ := kb
        subst e2
        cases h
        exact eqc_bl_bl 
      | int i2 =>
        have e1 : u = _ := ka
        subst e1
        obtain ⟨t2, rfl⟩ := kb
        cases h
        exact eqc_bl_int 
      | str x2 =>
        have e1 : u = _ := ka
        subst e1
        obtain ⟨t2, rfl⟩ := kb
        cases h
        exact eqc_bl_str 
      | tup ys =>
        have e1 : u = _ := ka
        subst e1
        obtain ⟨a2, vs2, its2, rfl, r2, q2, z2⟩ := kb
        cases h
        exact eqc_bl_tup z2 hu
      | lst ys =>
        have e1 : u = _ := ka
        subst e1
        obtain ⟨a2, vs2, its2, rfl, r2, q2, z2⟩ := kb
        cases h
        exact eqc_bl_lst z2 hu
    | int i1 =>
      cases db with
      | no => cases h
      | non =>
        obtain ⟨t1, rfl⟩ := ka
        have e2 : w = _ := kb
        subst e2
        cases h
        exact eqc_int_non 
      | bl b2 =>
        obtain ⟨t1, rfl⟩ := ka
        have e2 : w = _ := kb
        subst e2
        cases h
        exact eqc_int_bl 
      | int i2 =>
        obtain ⟨t1, rfl⟩ := ka
        obtain ⟨t2, rfl⟩ := kb
        cases h
        exact eqc_int_int 
      | str x2 =>
        obtain ⟨t1, rfl⟩ := ka
        obtain ⟨t2, rfl⟩ := kb
        cases h
        exact eqc_int_str 
      | tup ys =>
        obtain ⟨t1, rfl⟩ := ka
        obtain ⟨a2, vs2, its2, rfl, r2, q2, z2⟩ := kb
        cases h
        exact eqc_int_tup z2 hu
      | lst ys =>
        obtain ⟨t1, rfl⟩ := ka
        obtain ⟨a2, vs2, its2, rfl, r2, q2, z2⟩ := kb
        cases h
        exact eqc_int_lst z2 hu
    | str x1 =>
      cases db with
      | no => cases h
      | non =>
        obtain ⟨t1, rfl⟩ := ka
        have e2 : w = _ := kb
        subst e2
        cases h
        exact eqc_str_non 
      | bl b2 =>
        obtain ⟨t1, rfl⟩ := ka
        have e2 : w = _ := kb
        subst e2
        cases h
        exact eqc_str_bl 
      | int i2 =>
        obtain ⟨t1, rfl⟩ := ka
        obtain ⟨t2, rfl⟩ := kb
        cases h
        exact eqc_str_int 
      | str x2 =>
        obtain ⟨t1, rfl⟩ := ka
        obtain ⟨t2, rfl⟩ := kb
        cases h
        exact eqc_str_str 
      | tup ys =>
        obtain ⟨t1, rfl⟩ := ka
        obtain ⟨a2, vs2, its2, rfl, r2, q2, z2⟩ := kb
        cases h
        exact eqc_str_tup z2 hu
      | lst ys =>
        obtain ⟨t1, rfl⟩ := ka
        obtain ⟨a2, vs2, its2, rfl, r2, q2, z2⟩ := kb
        cases h
        exact eqc_str_lst z2 hu
    | tup xs =>
      cases db with
      | no => cases h
      | non =>
        obtain ⟨a1, vs1, its1, rfl, r1, q1, z1⟩ := ka
        have e2 : w = _ := kb
        subst e2
        cases h
        exact eqc_tup_non z1 hu
      | bl b2 =>
        obtain ⟨a1, vs1, its1, rfl, r1, q1, z1⟩ := ka
        have e2 : w = _ := kb
        subst e2
        cases h
        exact eqc_tup_bl z1 hu
      | int i2 =>
        obtain ⟨a1, vs1, its1, rfl, r1, q1, z1⟩ := ka
        obtain ⟨t2, rfl⟩ := kb
        cases h
        exact eqc_tup_int z1 hu
      | str x2 =>
        obtain ⟨a1, vs1, its1, rfl, r1, q1, z1⟩ := ka
        obtain ⟨t2, rfl⟩ := kb
        cases h
        exact eqc_tup_str z1 hu
      | tup ys =>
        obtain ⟨a1, vs1, its1, rfl, r1, q1, z1⟩ := ka
        obtain ⟨a2, vs2, its2, rfl, r2, q2, z2⟩ := kb
        obtain ⟨he, hk⟩ := items h r1 r2 q1 q2
        have R := SeqAt.RcAt.tuples z1 z2 hu he
        have N := SeqAt.RcNeAt.tuples z1 z2 hu he
        rw [← hk] at R N
        refine ⟨?_, R, N⟩
        by_cases ea : a1 = a2
        · subst ea
          rw [same rfl]
          exact SeqAt.EqAt.same _
        · exact SeqAt.EqAt.of_refs ea R
      | lst ys =>
        obtain ⟨a1, vs1, its1, rfl, r1, q1, z1⟩ := ka
        obtain ⟨a2, vs2, its2, rfl, r2, q2, z2⟩ := kb
        cases h
        exact eqc_tup_lst z1 z2 hu
    | lst xs =>
      cases db with
      | no => cases h
      | non =>
        obtain ⟨a1, vs1, its1, rfl, r1, q1, z1⟩ := ka
        have e2 : w = _ := kb
        subst e2
        cases h
        exact eqc_lst_non z1 hu
      | bl b2 =>
        obtain ⟨a1, vs1, its1, rfl, r1, q1, z1⟩ := ka
        have e2 : w = _ := kb
        subst e2
        cases h
        exact eqc_lst_bl z1 hu
      | int i2 =>
        obtain ⟨a1, vs1, its1, rfl, r1, q1, z1⟩ := ka
        obtain ⟨t2, rfl⟩ := kb
        cases h
        exact eqc_lst_int z1 hu
      | str x2 =>
        obtain ⟨a1, vs1, its1, rfl, r1, q1, z1⟩ := ka
        obtain ⟨t2, rfl⟩ := kb
        cases h
        exact eqc_lst_str z1 hu
      | tup ys =>
        obtain ⟨a1, vs1, its1, rfl, r1, q1, z1⟩ := ka
        obtain ⟨a2, vs2, its2, rfl, r2, q2, z2⟩ := kb
        cases h
        exact eqc_lst_tup z1 z2 hu
      | lst ys =>
        obtain ⟨a1, vs1, its1, rfl, r1, q1, z1⟩ := ka
        obtain ⟨a2, vs2, its2, rfl, r2, q2, z2⟩ := kb
        obtain ⟨he, hk⟩ := items h r1 r2 q1 q2
        have RN : SeqAt.RcAt A s (.ref a1) (.ref a2) k ∧ SeqAt.RcNeAt A s (.ref a1) (.ref a2) (!k) := by
          by_cases hz : its1.toArray.size = its2.toArray.size
          · have R := SeqAt.RcAt.lists z1 z2 hz hu he
            have N := SeqAt.RcNeAt.lists z1 z2 hz hu he
            have hk2 : k = (List.range its1.toArray.size).all (fun j => ((xs[j]?.bind fun x => ys[j]?.bind fun y => eqN st n x y).getD false)) := by
              rw [hk, ← hz, Nat.min_self]
              simp
            rw [← hk2] at R N
            exact ⟨R, N⟩
          · have hk2 : k = false := by
              rw [hk]
              simp only [beq_eq_false_iff_ne.mpr hz, Bool.and_false]
            have hb : (its1.toArray.size != its2.toArray.size) = true := by simpa using hz
            subst hk2
            exact ⟨SeqAt.RcAt.lists_lengths z1 z2 hb hu, SeqAt.RcNeAt.lists_lengths z1 z2 hb hu⟩
        refine ⟨?_, RN.1, RN.2⟩
        by_cases ea : a1 = a2
        · subst ea
          rw [same rfl]
          exact SeqAt.EqAt.same _
        · exact SeqAt.EqAt.of_refs ea RN.1
end
end DL

end
/-! DL3 -/
section
set_option Elab.async false
set_option linter.all false
set_option maxRecDepth 100000
/-! DL part 3: the judgements, names, constants, operators, tests, displays -/
namespace DL
open PySem PySem.Spec PyProof.Rows L2

noncomputable abbrev EXT := Addr → Sto → List Addr → Hp → Prop
/-- what comes of a meaning: k of the value, the store, the places, the heap -/
noncomputable def Run (K : PySem.W.Frag) (EX : EXT) {α : Type} (O : List Addr) (H : Hp) (r : Out α) (k : α → Sto → List Addr → Hp → Prop) : Prop := match r with
  | .ok a st => ∀ O' H', Keep K O H O' H' → WR K O' H' st → k a st O' H'
  | .exc c st => ∀ O' H', Keep K O H O' H' → WR K O' H' st → EX c st O' H'
  | .bad => False
section
variable {K : PySem.W.Frag} {EX : EXT} {α β : Type} {O O' : List Addr} {H H' : Hp} {st : Sto}
theorem Run.now {a : α} {k : α → Sto → List Addr → Hp → Prop} (h : Run K EX O H (.ok a st) k) (W : WR K O H st) : k a st O H := h O H Keep.refl W
theorem Run.later {r : Out α} {k : α → Sto → List Addr → Hp → Prop} (h : Run K EX O H r k) (kp : Keep K O H O' H') : Run K EX O' H' r k := by
  cases r with
  | ok a st => exact fun O2 H2 k2 W2 => h O2 H2 (kp.trans k2) W2
  | exc c st => exact fun O2 H2 k2 W2 => h O2 H2 (kp.trans k2) W2
  | bad => exact h
theorem Run.mono {r : Out α} {k k' : α → Sto → List Addr → Hp → Prop} (h : Run K EX O H r k) (f : ∀ a st O' H', Keep K O H O' H' → WR K O' H' st → k a st O' H' → k' a st O' H') : Run K EX O H r k' := by
  cases r with
  | ok a st => exact fun O' H' kp W => f a st O' H' kp W (h O' H' kp W)
  | exc c st => exact h
  | bad => exact h
theorem Run.bind {r : Out α} {g : α → Sto → Out β} {k : β → Sto → List Addr → Hp → Prop} (h : Run K EX O H (r.bind g) k) : Run K EX O H r (fun a st O' H' => Run K EX O' H' (g a st) k) := by
  cases r with
  | ok a st => exact fun O' H' kp W => Run.later (r := g a st) h kp
  | exc c st => exact h
  | bad => exact h
end

/-- the names' data -/
structure REnv (K : PySem.W.Frag) (O : List Addr) (H : Hp) (ρ : Ev) (σ : L2.St) : Prop where
  len : ρ.length = σ.length
  at_ : ∀ (i : Nat) (d : D), ρ[i]? = some (some d) → ∃ v, σ[i]? = some (some v) ∧ Rep K O H d v
section
variable {K : PySem.W.Frag} {O O' : List Addr} {H H' : Hp} {ρ : Ev} {σ : L2.St}
theorem REnv.mono (E : REnv K O H ρ σ) (k : Keep K O H O' H') : REnv K O' H' ρ σ :=
  ⟨E.len, fun i d e => let ⟨v, h, r⟩ := E.at_ i d e; ⟨v, h, Rep.mono k d v r⟩⟩
theorem REnv.set (E : REnv K O H ρ σ) {i : Nat} {d : D} {v : V} (r : Rep K O H d v) : REnv K O H (ρ.set i (some d)) (σ.set i (some v)) := by
  refine ⟨by rw [List.length_set, List.length_set, E.len], fun j e h => ?_⟩
  by_cases hij : i = j
  · subst hij
    have hl : i < ρ.length := by
      have := (List.getElem?_eq_some_iff.mp h).1
      rwa [List.length_set] at this
    rw [List.getElem?_set_self hl] at h
    cases h
    exact ⟨v, List.getElem?_set_self (by rw [← E.len]; exact hl), r⟩
  · rw [List.getElem?_set_ne hij] at h
    obtain ⟨u, h1, h2⟩ := E.at_ j e h
    exact ⟨u, by rw [List.getElem?_set_ne hij]; exact h1, h2⟩
end

noncomputable abbrev DE := Ev → Sto → Out D
noncomputable abbrev DT := Ev → Sto → Out Bool
noncomputable abbrev DA := Ev → Sto → Out (List D)
noncomputable def EX0 : EXT := fun _ _ _ _ => False
section
variable (K : PySem.W.Frag) (EX : EXT)
noncomputable def Val (Q : VK) (d : D) (_ : Sto) (O : List Addr) (H : Hp) : Prop := ∀ v, Rep K O H d v → Q v H
noncomputable def Vls (Q : List V → Hp → Prop) (ds : List D) (_ : Sto) (O : List Addr) (H : Hp) : Prop := ∀ vs, Reps K O H ds vs → Q vs H
/-- a list just made, at p -/
noncomputable def New (Q : VK) (ds : List D) (_ : Sto) (O : List Addr) (H : Hp) : Prop := ∀ p vs, Reps K O H ds vs → H p = none → Q (.ref p) (upd H p (.lst vs))
noncomputable def tD (f : DE) : TE := fun σ H Q => ∃ O ρ st, WR K O H st ∧ REnv K O H ρ σ ∧ Run K EX O H (f ρ st) (Val K Q)
noncomputable def tDT (f : DT) : TT := fun σ H Q => ∃ O ρ st, WR K O H st ∧ REnv K O H ρ σ ∧ Run K EX O H (f ρ st) (fun b _ _ H' => Q b H')
noncomputable def tDA (f : DA) : TA := fun σ H Q => ∃ O ρ st, WR K O H st ∧ REnv K O H ρ σ ∧ Run K EX O H (f ρ st) (Vls K Q)
noncomputable def tDF (f : DA) : TE := fun σ H Q => ∃ O ρ st, WR K O H st ∧ REnv K O H ρ σ ∧ Run K EX O H (f ρ st) (New K Q)
noncomputable def rD1 (g : D → Sto → Out D) : V → Hp → VK → Prop := fun x H Q => ∃ O d st, WR K O H st ∧ Rep K O H d x ∧ Run K EX O H (g d st) (Val K Q)
noncomputable def rD2 (g : D → D → Sto → Out D) : R2 := fun x y H Q => ∃ O a b st, WR K O H st ∧ Rep K O H a x ∧ Rep K O H b y ∧ Run K EX O H (g a b st) (Val K Q)
noncomputable def rDF2 (g : D → D → Sto → Out (List D)) : R2 := fun x y H Q => ∃ O a b st, WR K O H st ∧ Rep K O H a x ∧ Rep K O H b y ∧ Run K EX O H (g a b st) (New K Q)
noncomputable def rDC (g : List D → Sto → Out D) : List V → Hp → VK → Prop := fun xs H Q => ∃ O ds st, WR K O H st ∧ Reps K O H ds xs ∧ Run K EX O H (g ds st) (Val K Q)
noncomputable def rDCF (g : List D → Sto → Out (List D)) : List V → Hp → VK → Prop := fun xs H Q => ∃ O ds st, WR K O H st ∧ Reps K O H ds xs ∧ Run K EX O H (g ds st) (New K Q)
end
section
variable (X : Cx) (EX : EXT)
noncomputable def PD (e : Expr) (f : DE) : Prop := PE X e (tD X.K EX f)
noncomputable def PDT (e : Expr) (f : DT) : Prop := PT X e (tDT X.K EX f)
noncomputable def PDW (e : Expr) (f : DT) : Prop := PW X e (tDT X.K EX f)
noncomputable def PDA (es : List Expr) (f : DA) : Prop := PA X es (tDA X.K EX f)
noncomputable def PDF (e : Expr) (f : DA) : Prop := PE X e (tDF X.K EX f)
noncomputable def OpD (f : Value → Value → Sem Value) (g : D → D → Sto → Out D) : Prop := OpR X f (rD2 X.K EX g)
noncomputable def OpF (f : Value → Value → Sem Value) (g : D → D → Sto → Out (List D)) : Prop := OpR X f (rDF2 X.K EX g)
noncomputable def CallD (f : Value) (g : List D → Sto → Out D) : Prop := CallR X f (rDC X.K EX g)
noncomputable def CallF (f : Value) (g : List D → Sto → Out (List D)) : Prop := CallR X f (rDCF X.K EX g)
end
theorem PE.mono {X : Cx} {e : Expr} {t t' : TE} (h : PE X e t) (f : ∀ σ H Q, t' σ H Q → t σ H Q) : PE X e t' := fun pins s σ H Q I q => h pins s σ H Q I (f σ H Q q)
theorem PT.mono {X : Cx} {e : Expr} {t t' : TT} (h : PT X e t) (f : ∀ σ H Q, t' σ H Q → t σ H Q) : PT X e t' := fun pins s σ H Q I q => h pins s σ H Q I (f σ H Q q)
theorem PW.mono {X : Cx} {e : Expr} {t t' : TT} (h : PW X e t) (f : ∀ σ H Q, t' σ H Q → t σ H Q) : PW X e t' := fun wh pins s σ H Q I q => h wh pins s σ H Q I (f σ H Q q)
theorem PA.mono {X : Cx} {es : List Expr} {t t' : TA} (h : PA X es t) (f : ∀ σ H Q, t' σ H Q → t σ H Q) : PA X es t' := fun pos pins s σ H Q I q => h pos pins s σ H Q I (f σ H Q q)
theorem PS.mono {X : Cx} {e : Stmt} {t t' : TS} (h : PS X e t) (f : ∀ D σ H, t' D σ H → t D σ H) : PS X e t' := fun pins s σ H D I q => h pins s σ H D I (f D σ H q)
theorem PSs.mono {X : Cx} {e : List Stmt} {t t' : TS} (h : PSs X e t) (f : ∀ D σ H, t' D σ H → t D σ H) : PSs X e t' := fun pins s σ H D I q => h pins s σ H D I (f D σ H q)
theorem OpR.mono {X : Cx} {f : Value → Value → Sem Value} {r r' : R2} (h : OpR X f r) (g : ∀ x y H Q, r' x y H Q → r x y H Q) : OpR X f r' := fun pins s σ H x y v u Q I rx ry q => h pins s σ H x y v u Q I rx ry (g x y H Q q)

section
variable {X : Cx} {EX : EXT} {a b c e : Expr} {fa fb fc : DE} {pos : Pos} {ta tb : DT}
/-! ### names, constants -/
noncomputable def dVar (i : Nat) : DE := fun ρ st => match ρ[i]? with
  | some (some d) => .ok d st
  | _ => .bad
theorem pd_var (i : Nat) {x : Str} {pos : Pos} (hN : X.N[i]? = some x := by rfl) (hv : Vis X.env.scope x := by first | exact Or.inl rfl | exact Or.inr (Or.inl rfl) | exact Or.inr (Or.inr rfl)) (hd : (x == ("__debug__" : Str)) = false := by decide)
    (hcd : (x == ("__classdict__" : Str)) = false := by decide) : PD X EX (.Name x pos) (dVar i) := by
  refine PE.mono (pe_var hN hv hd hcd) ?_
  rintro σ H Q ⟨O, ρ, st, W, E, R⟩
  unfold dVar at R
  cases h : ρ[i]? with
  | none => rw [h] at R; exact R.elim
  | some z =>
    cases z with
    | none => rw [h] at R; exact R.elim
    | some d =>
      rw [h] at R
      obtain ⟨v, h1, r⟩ := E.at_ i d h
      exact ⟨v, h1, R.now W v r⟩
noncomputable def dC (d : D) : DE := fun _ st => .ok d st
theorem pd_C {v : V} {d : D} (h : PE X e (tC v)) (hr : ∀ O H, Rep X.K O H d v) : PD X EX e (dC d) := by
  refine PE.mono h ?_
  rintro σ H Q ⟨O, ρ, st, W, E, R⟩
  exact R.now W v (hr O H)
theorem pd_int {i j pos} : PD X EX (.Constant (.int i) j pos) (dC (.int i)) := pd_C pe_int fun _ _ => Rep.int_i.mpr rfl
theorem pd_bl {b j pos} : PD X EX (.Constant (.bool b) j pos) (dC (.bl b)) := pd_C pe_bl fun _ _ => Rep.bl_i.mpr rfl
theorem pd_str {x j pos} : PD X EX (.Constant (.str x) j pos) (dC (.str x)) := pd_C pe_str fun _ _ => Rep.str_i.mpr rfl
/-! ### two in a row -/
noncomputable def dBin (g : D → D → Sto → Out D) (fa fb : DE) : DE := fun ρ st => (fa ρ st).bind fun x st1 => (fb ρ st1).bind fun y st2 => g x y st2
noncomputable def dBinF (g : D → D → Sto → Out (List D)) (fa fb : DE) : DA := fun ρ st => (fa ρ st).bind fun x st1 => (fb ρ st1).bind fun y st2 => g x y st2
theorem bin_imp {g : D → D → Sto → Out D} : ∀ σ H Q, tD X.K EX (dBin g fa fb) σ H Q → tOp (rD2 X.K EX g) (tD X.K EX fa) (tD X.K EX fb) σ H Q := by
  rintro σ H Q ⟨O, ρ, st, W, E, R⟩
  refine ⟨O, ρ, st, W, E, R.bind.mono fun x st1 O1 H1 k1 W1 R1 v r => ?_⟩
  refine ⟨O1, ρ, st1, W1, E.mono k1, R1.bind.mono fun y st2 O2 H2 k2 W2 R2 u r2 => ?_⟩
  exact ⟨O2, x, y, st2, W2, Rep.mono k2 x v r, r2, R2⟩
theorem binF_imp {g : D → D → Sto → Out (List D)} : ∀ σ H Q, tDF X.K EX (dBinF g fa fb) σ H Q → tOp (rDF2 X.K EX g) (tD X.K EX fa) (tD X.K EX fb) σ H Q := by
  rintro σ H Q ⟨O, ρ, st, W, E, R⟩
  refine ⟨O, ρ, st, W, E, R.bind.mono fun x st1 O1 H1 k1 W1 R1 v r => ?_⟩
  refine ⟨O1, ρ, st1, W1, E.mono k1, R1.bind.mono fun y st2 O2 H2 k2 W2 R2 u r2 => ?_⟩
  exact ⟨O2, x, y, st2, W2, Rep.mono k2 x v r, r2, R2⟩
theorem pd_op {op : Operator} {g : D → D → Sto → Out D} (ho : OpD X EX (binaryOp op) g) (ha : PD X EX a fa) (hb : PD X EX b fb) : PD X EX (.BinOp a op b pos) (dBin g fa fb) :=
  PE.mono (pe_op ho ha hb) bin_imp
theorem pdf_op {op : Operator} {g : D → D → Sto → Out (List D)} (ho : OpF X EX (binaryOp op) g) (ha : PD X EX a fa) (hb : PD X EX b fb) : PDF X EX (.BinOp a op b pos) (dBinF g fa fb) :=
  PE.mono (pe_op ho ha hb) binF_imp
theorem pd_cmp {op : CmpOp} {g : D → D → Sto → Out D} (ho : OpD X EX (compareOp op) g) (ha : PD X EX a fa) (hb : PD X EX b fb) (hm : behindInMarks op b = false := by first | exact nomark _ (by decide) (by decide) | with_unfolding_all rfl) : PD X EX (.Compare a [op] [b] pos) (dBin g fa fb) :=
  PE.mono (pe_cmpR ho ha hb hm) bin_imp
/-- a test whose value is a bool -/
noncomputable def asB : D → Sto → Out Bool
  | .bl b, st => .ok b st
  | _, _ => .bad
noncomputable def dB (f : DE) : DT := fun ρ st => (f ρ st).bind asB
theorem asB_run {O : List Addr} {H : Hp} {st : Sto} {d : D} {v : V} {Q : Bool → Hp → Prop} (W : WR X.K O H st) (r : Rep X.K O H d v) (R : Run X.K EX O H (asB d st) (fun b _ _ H' => Q b H')) : ∃ k, v = .bl k ∧ Q k H := by
  cases d with
  | bl b => exact ⟨b, Rep.bl_i.mp r, Run.now (k := fun b _ _ H' => Q b H') R W⟩
  | _ => exact R.elim
theorem pdt_cmp {op : CmpOp} {g : D → D → Sto → Out D} (ho : OpD X EX (compareOp op) g) (ha : PD X EX a fa) (hb : PD X EX b fb) (hm : behindInMarks op b = false := by first | exact nomark _ (by decide) (by decide) | with_unfolding_all rfl) : PDT X EX (.Compare a [op] [b] pos) (dB (dBin g fa fb)) := by
  refine PT.mono (pt_cmpR ho ha hb hm) ?_
  rintro σ H Q ⟨O, ρ, st, W, E, R⟩
  exact bin_imp (X := X) (EX := EX) σ H _ ⟨O, ρ, st, W, E, R.bind.mono fun d st1 O1 H1 k1 W1 R1 v r => asB_run W1 r R1⟩
noncomputable def dAnd (ta tb : DT) : DT := fun ρ st => (ta ρ st).bind fun x st1 => if x = true then tb ρ st1 else .ok false st1
noncomputable def dOr (ta tb : DT) : DT := fun ρ st => (ta ρ st).bind fun x st1 => if x = true then .ok true st1 else tb ρ st1
noncomputable def dNot (ta : DT) : DT := fun ρ st => (ta ρ st).bind fun x st1 => .ok (!x) st1
theorem pdw_or1 (ha : PDT X EX a ta) : PDW X EX (.BoolOp .Or [a] pos) ta := pw_or1 ha
theorem pdw_or {rest : List Expr} (ha : PDT X EX a ta) (hb : PDW X EX (.BoolOp .Or (b :: rest) pos) tb) : PDW X EX (.BoolOp .Or (a :: b :: rest) pos) (dOr ta tb) := by
  refine PW.mono (pw_or ha hb) ?_
  rintro σ H Q ⟨O, ρ, st, W, E, R⟩
  refine ⟨O, ρ, st, W, E, R.bind.mono fun x st1 O1 H1 k1 W1 R1 => ?_⟩
  cases x with
  | true => exact Run.now (k := fun b _ _ H' => Q b H') R1 W1
  | false => exact ⟨O1, ρ, st1, W1, E.mono k1, R1⟩
theorem PDW.pt (h : PDW X EX e ta) : PDT X EX e ta := PW.pt h
/-- and, or, not as values (bools) -/
noncomputable def dAndV (fa fb : DE) : DE := fun ρ st => (fa ρ st).bind fun d st1 => (asB d st1).bind fun x st2 => if x = true then fb ρ st2 else .ok (.bl false) st2
noncomputable def dOrV (fa fb : DE) : DE := fun ρ st => (fa ρ st).bind fun d st1 => (asB d st1).bind fun x st2 => if x = true then .ok (.bl true) st2 else fb ρ st2
noncomputable def dNotV (fa : DE) : DE := fun ρ st => (fa ρ st).bind fun d st1 => (asB d st1).bind fun x st2 => .ok (.bl (!x)) st2
theorem asB_runB {O : List Addr} {H : Hp} {st : Sto} {d : D} {v : V} {β : Type} {g : Bool → Sto → Out β} {k : β → Sto → List Addr → Hp → Prop} (r : Rep X.K O H d v) (R : Run X.K EX O H ((asB d st).bind g) k) : ∃ x, v = .bl x ∧ Run X.K EX O H (g x st) k := by
  cases d with
  | bl b => exact ⟨b, Rep.bl_i.mp r, R⟩
  | _ => exact R.elim
theorem pd_one {op} (h : PD X EX a fa) : PD X EX (.BoolOp op [a] pos) fa := pe_one h
theorem pd_and {rest : List Expr} (ha : PD X EX a fa) (hb : PD X EX (.BoolOp .And (b :: rest) pos) fb) : PD X EX (.BoolOp .And (a :: b :: rest) pos) (dAndV fa fb) := by
  refine PE.mono (pe_and ha hb) ?_
  rintro σ H Q ⟨O, ρ, st, W, E, R⟩
  refine ⟨O, ρ, st, W, E, R.bind.mono fun d st1 O1 H1 k1 W1 R1 v r => ?_⟩
  obtain ⟨x, rfl, R2⟩ := asB_runB r R1
  refine ⟨x, rfl, ?_⟩
  cases x with
  | true => exact ⟨O1, ρ, st1, W1, E.mono k1, R2⟩
  | false => exact Run.now (k := Val X.K Q) R2 W1 _ (Rep.bl_i.mpr rfl)
noncomputable def dIf (t : DT) (fa fb : DE) : DE := fun ρ st => (t ρ st).bind fun x st1 => if x = true then fa ρ st1 else fb ρ st1
/-- a op1 b op2 c -/
noncomputable def dChain (g g' : D → D → Sto → Out D) (fa fb fc : DE) : DE := fun ρ st => (fa ρ st).bind fun x st1 => (fb ρ st1).bind fun y st2 => (g x y st2).bind fun z st3 => (asB z st3).bind fun k st4 =>
  if k = true then (fc ρ st4).bind fun w st5 => g' y w st5 else .ok (.bl false) st4
/-! ### lists of arguments, displays -/
noncomputable def dNil : DA := fun _ st => .ok [] st
noncomputable def dCons (f : DE) (g : DA) : DA := fun ρ st => (f ρ st).bind fun x st1 => (g ρ st1).bind fun xs st2 => .ok (x :: xs) st2
theorem pda_nil : PDA X EX [] dNil := by
  refine PA.mono pa_nil ?_
  rintro σ H Q ⟨O, ρ, st, W, E, R⟩
  exact Run.now (k := Vls X.K Q) R W _ (Reps.nil_i.mpr rfl)
theorem pda_cons {es : List Expr} {g : DA} (ha : PD X EX a fa) (hr : PDA X EX es g) (hs : starEach (a :: es) X.env = (false, eval a X.env) :: starEach es X.env := by rfl) : PDA X EX (a :: es) (dCons fa g) := by
  refine PA.mono (pa_cons ha hr hs) ?_
  rintro σ H Q ⟨O, ρ, st, W, E, R⟩
  refine ⟨O, ρ, st, W, E, R.bind.mono fun x st1 O1 H1 k1 W1 R1 v r => ?_⟩
  refine ⟨O1, ρ, st1, W1, E.mono k1, R1.bind.mono fun xs st2 O2 H2 k2 W2 R2 vs rs => ?_⟩
  exact Run.now (k := Vls X.K Q) R2 W2 _ (Reps.cons_i.mpr ⟨v, vs, rfl, Rep.mono k2 x v r, rs⟩)
/-- sizes that are asked: far below the model's own line -/
noncomputable def small : Nat := 10000
theorem small_le : small ≤ sizeLine := by rw [sizeLine_eq]; decide
noncomputable def dTup (g : DA) : DE := fun ρ st => (g ρ st).bind fun xs st1 => if xs.length ≤ small then .ok (.tup xs) st1 else .bad
noncomputable def dLst (g : DA) : DA := fun ρ st => (g ρ st).bind fun xs st1 => if xs.length ≤ small then .ok xs st1 else .bad
/-- a new tuple -/
theorem new_tup {O : List Addr} {H : Hp} {st : Sto} {xs : List D} {vs : List V} {p : Addr} {Q : VK} (W : WR X.K O H st) (r : Reps X.K O H xs vs) (hp : H p = none) (R : Run X.K EX O H (.ok (.tup xs) st) (Val X.K Q)) : Q (.ref p) (upd H p (.tup vs)) :=
  R O (upd H p (.tup vs)) (Keep.laid hp) (W.laid hp) _ (Rep.tup_i.mpr ⟨p, vs, rfl, upd_same, Reps.mono (Keep.laid hp) _ _ r⟩)
/-- a new list that is never written -/
theorem new_lst {O : List Addr} {H : Hp} {st : Sto} {xs : List D} {vs : List V} {p : Addr} {Q : VK} (W : WR X.K O H st) (r : Reps X.K O H xs vs) (hp : H p = none) (R : Run X.K EX O H (.ok (.lst xs) st) (Val X.K Q)) : Q (.ref p) (upd H p (.lst vs)) := by
  refine R O (upd H p (.lst vs)) (Keep.laid hp) (W.laid hp) _ (Rep.lst_i.mpr ⟨p, vs, rfl, fun hm => ?_, upd_same, Reps.mono (Keep.laid hp) _ _ r⟩)
  obtain ⟨i, hi⟩ := List.mem_iff_getElem?.mp hm
  exact W.ne hi hp rfl
theorem pd_tup {es : List Expr} {x1} {g : DA} (h : PDA X EX es g) : PD X EX (.Tuple es x1 pos) (dTup g) := by
  refine PE.mono (pe_tup h) ?_
  rintro σ H Q ⟨O, ρ, st, W, E, R⟩
  refine ⟨O, ρ, st, W, E, R.bind.mono fun xs st1 O1 H1 k1 W1 R1 vs r => ?_⟩
  by_cases hz : xs.length ≤ small
  · rw [if_pos hz] at R1
    exact ⟨by rw [← r.length]; exact Nat.le_trans hz small_le, fun p hp => new_tup W1 r hp R1⟩
  · rw [if_neg hz] at R1
    exact R1.elim
theorem pdf_lst {es : List Expr} {g : DA} (h : PDA X EX es g) : PDF X EX (.List es pos) (dLst g) := by
  refine PE.mono (pe_lst h) ?_
  rintro σ H Q ⟨O, ρ, st, W, E, R⟩
  refine ⟨O, ρ, st, W, E, R.bind.mono fun xs st1 O1 H1 k1 W1 R1 vs r => ?_⟩
  by_cases hz : xs.length ≤ small
  · rw [if_pos hz] at R1
    exact ⟨by rw [← r.length]; exact Nat.le_trans hz small_le, fun p hp => Run.now (k := New X.K Q) R1 W1 p vs r hp⟩
  · rw [if_neg hz] at R1
    exact R1.elim
/-- a new list as a value -/
noncomputable def dF (f : DA) : DE := fun ρ st => (f ρ st).bind fun xs st1 => .ok (.lst xs) st1
theorem pd_F {f : DA} (h : PDF X EX e f) : PD X EX e (dF f) := by
  refine PE.mono h ?_
  rintro σ H Q ⟨O, ρ, st, W, E, R⟩
  exact ⟨O, ρ, st, W, E, R.bind.mono fun xs st1 O1 H1 k1 W1 R1 p vs r hp => new_lst W1 r hp R1⟩
end
end DL

end
/-! DL4 -/
section
set_option Elab.async false
set_option linter.all false
set_option maxRecDepth 100000
/-! DL part 4: operators -/
namespace HT
open PySem PyProof.Rows
section
open PySem.SeqAt
open PySem.AutoSeq1 (wpAny_loadPart')
open PySem.MeetsSeq PySem.MeetsSeq2 PySem.MeetsSeq3
variable {prog : Program} {w : World} {A : Around} {E : Value → Shared → Prop} {s : Shared}
/-- () + u is u -/
theorem cat_tup0 {t b : Addr} {ws : List Value} {Q : Value → Shared → Prop} (ht : IsTup s.heap t #[]) (hb : IsTup s.heap b ws.toArray) (h : Q (.ref b) s) : wpAny (model prog w) A (binaryOp .Add (.ref t) (.ref b)) Q E s := by
  obtain ⟨⟨cls, dd, data, sl⟩, ho, hc, n, hd⟩ := id ht
  obtain ⟨⟨cls2, dd2, data2, sl2⟩, ho2, hc2, n2, hd2⟩ := id hb
  simp only at hc hd hc2 hd2
  subst hc hd hc2 hd2
  exact concat_meets ⟨_, ho, rfl⟩ ⟨_, ho2, rfl⟩ noFill_tuple_add seq_tuple_add PySem.F.slot_tuple_add PySem.F.entry_tuple_add (PySem.F.args_tuple_add_2 _ _)
      (tuple_addW0 t b #[] ws.toArray n n2 dd dd2 sl sl2 rfl) ⟨ho, ho2, h⟩
end
end HT
namespace DL
open PySem PySem.Spec PyProof.Rows L2
section
variable {X : Cx} {EX : EXT}
/-! ### + - * // % -/
noncomputable def addD : D → D → Sto → Out D
  | .int a, .int b, st => .ok (.int (a + b)) st
  | .str a, .str b, st => if a.length + b.length ≤ small then .ok (.str (a ++ b)) st else .bad
  | .tup xs, .tup ys, st => if xs.length + ys.length ≤ small then .ok (.tup (xs ++ ys)) st else .bad
  | _, _, _ => .bad
theorem op_addD : OpD X EX (binaryOp .Add) addD := by
  intro pins s σ H x y v u Q I rx ry h
  obtain ⟨O, a, b, st, W, ra, rb, R⟩ := h
  cases a <;> cases b <;> first | exact R.elim | skip
  case int.int i j =>
    rw [Rep.int_i] at ra rb
    subst ra rb
    exact op_add pins s σ H _ _ v u Q I rx ry ⟨i, j, rfl, rfl, Run.now (k := Val X.K Q) R W _ (Rep.int_i.mpr rfl)⟩
  case str.str i j =>
    rw [Rep.str_i] at ra rb
    subst ra rb
    dsimp only [addD] at R
    by_cases hz : i.length + j.length ≤ small
    · rw [if_pos hz] at R
      exact op_add_str pins s σ H _ _ v u Q I rx ry ⟨i, j, rfl, rfl, Nat.le_trans hz small_le, Run.now (k := Val X.K Q) R W _ (Rep.str_i.mpr rfl)⟩
    · rw [if_neg hz] at R; exact R.elim
  case tup.tup xs ys =>
    dsimp only [addD] at R
    by_cases hz : xs.length + ys.length ≤ small
    · rw [if_pos hz] at R
      rw [Rep.tup_i] at ra rb
      obtain ⟨a, vs, rfl, q1, r1⟩ := ra
      obtain ⟨b, ws, rfl, q2, r2⟩ := rb
      by_cases h0 : xs = []
      · subst h0
        rw [Reps.nil_i] at r1
        subst r1
        cases rx
        cases ry
        obtain ⟨its, v1, p1, _⟩ := I.tuple (SqT.of q1)
        obtain ⟨its2, v2, p2, _⟩ := I.tuple (SqT.of q2)
        cases v1
        exact HT.cat_tup0 p1 p2 ⟨.ref b, H, I, rfl, Run.now (k := Val X.K Q) R W _ (Rep.tup_i.mpr ⟨b, ws, rfl, q2, r2⟩)⟩
      · refine op_catT pins s σ H _ _ v u Q I rx ry ⟨a, b, vs, ws, rfl, rfl, SqT.of q1, SqT.of q2, fun z => h0 ?_, ?_, fun z => ?_, fun z p hp => ?_⟩
        · have := r1.length; rw [z] at this; exact List.length_eq_zero_iff.mp this
        · rw [← r1.length, ← r2.length]; exact Nat.le_trans hz small_le
        · have e : ys = [] := by have := r2.length; rw [z] at this; exact List.length_eq_zero_iff.mp this
          subst e
          rw [List.append_nil] at R
          exact Run.now (k := Val X.K Q) R W _ (Rep.tup_i.mpr ⟨a, vs, rfl, q1, r1⟩)
        · exact new_tup W (r1.append r2) hp R
    · rw [if_neg hz] at R; exact R.elim
/-- two lists -/
noncomputable def catL (a b : D) (st : Sto) : Out (List D) := match ownL st a, ownL st b with
  | some xs, some ys => if xs.length + ys.length ≤ small then .ok (xs ++ ys) st else .bad
  | _, _ => .bad
theorem op_catL : OpF X EX (binaryOp .Add) catL := by
  intro pins s σ H x y v u Q I rx ry h
  obtain ⟨O, a, b, st, W, ra, rb, R⟩ := h
  unfold catL at R
  cases ea : ownL st a with
  | none => rw [ea] at R; exact R.elim
  | some xs =>
    cases eb : ownL st b with
    | none => rw [ea, eb] at R; exact R.elim
    | some ys =>
      rw [ea, eb] at R
      dsimp only at R
      by_cases hz : xs.length + ys.length ≤ small
      · rw [if_pos hz] at R
        obtain ⟨p1, vs, rfl, q1, r1⟩ := rdO W ra ea
        obtain ⟨p2, ws, rfl, q2, r2⟩ := rdO W rb eb
        exact op_cat pins s σ H _ _ v u Q I rx ry ⟨p1, p2, vs, ws, rfl, rfl, q1, q2, by rw [← r1.length, ← r2.length]; exact Nat.le_trans hz small_le, fun p hp => Run.now (k := New X.K Q) R W p _ (r1.append r2) hp⟩
      · rw [if_neg hz] at R; exact R.elim
noncomputable def intOp (C : Int → Int → Bool) (g : Int → Int → Int) : D → D → Sto → Out D
  | .int a, .int b, st => if C a b = true then .ok (.int (g a b)) st else .bad
  | _, _, _ => .bad
theorem op_intOp {f : Value → Value → Sem Value} {C : Int → Int → Bool} {P : Int → Int → Prop} {g : Int → Int → Int} (h : OpR X f (rI P fun i j => .int (g i j))) (hC : ∀ i j, C i j = true → P i j) : OpD X EX f (intOp C g) := by
  intro pins s σ H x y v u Q I rx ry h'
  obtain ⟨O, a, b, st, W, ra, rb, R⟩ := h'
  cases a <;> cases b <;> first | exact R.elim | skip
  rename_i i j
  rw [Rep.int_i] at ra rb
  subst ra rb
  dsimp only [intOp] at R
  by_cases hz : C i j = true
  · rw [if_pos hz] at R
    exact h pins s σ H _ _ v u Q I rx ry ⟨i, j, rfl, rfl, hC i j hz, Run.now (k := Val X.K Q) R W _ (Rep.int_i.mpr rfl)⟩
  · rw [if_neg hz] at R; exact R.elim
noncomputable def subD : D → D → Sto → Out D
  | .int a, .int b, st => .ok (.int (a - b)) st
  | _, _, _ => .bad
theorem op_subD : OpD X EX (binaryOp .Sub) subD := by
  intro pins s σ H x y v u Q I rx ry h
  obtain ⟨O, a, b, st, W, ra, rb, R⟩ := h
  cases a <;> cases b <;> first | exact R.elim | skip
  rename_i i j
  rw [Rep.int_i] at ra rb
  subst ra rb
  exact op_sub pins s σ H _ _ v u Q I rx ry ⟨i, j, rfl, rfl, Run.now (k := Val X.K Q) R W _ (Rep.int_i.mpr rfl)⟩
noncomputable def mulOk (i j : Int) : Bool := (decide (-(2 ^ 64) < i) && decide (i < 2 ^ 64)) || (decide (-(2 ^ 64) < j) && decide (j < 2 ^ 64))
noncomputable def mulD : D → D → Sto → Out D := intOp mulOk fun i j => i * j
theorem op_mulD : OpD X EX (binaryOp .Mult) mulD := op_intOp op_mul fun i j h => by
  unfold mulOk at h
  rw [Bool.or_eq_true, Bool.and_eq_true, Bool.and_eq_true] at h
  rcases h with ⟨h1, h2⟩ | ⟨h1, h2⟩
  · exact .inl ⟨of_decide_eq_true h1, of_decide_eq_true h2⟩
  · exact .inr ⟨of_decide_eq_true h1, of_decide_eq_true h2⟩
noncomputable def divOk (_ j : Int) : Bool := @decide (0 < j ∧ j < 1073741824) (Classical.propDecidable _)
noncomputable def fdivD : D → D → Sto → Out D := intOp divOk fun i j => i / j
theorem op_fdivD : OpD X EX (binaryOp .FloorDiv) fdivD := op_intOp op_fdiv fun i j h => @of_decide_eq_true (0 < j ∧ j < 1073741824) (Classical.propDecidable _) h
noncomputable def modD : D → D → Sto → Out D := intOp (fun _ j => decide (0 < j)) fun i j => i % j
theorem op_modD : OpD X EX (binaryOp .Mod) modD := op_intOp op_mod fun i j h => of_decide_eq_true h

/-! ### comparisons -/
noncomputable def depth : Nat := 50
noncomputable def eqD (a b : D) (st : Sto) : Out D := match eqN st depth a b with
  | some k => .ok (.bl k) st
  | none => .bad
noncomputable def neD (a b : D) (st : Sto) : Out D := match eqN st depth a b with
  | some k => .ok (.bl (!k)) st
  | none => .bad
theorem op_eqD (hu : X.A.units + 64 < cLine) : OpD X EX (compareOp .Eq) eqD := by
  intro pins s σ H x y v u Q I rx ry h
  obtain ⟨O, a, b, st, W, ra, rb, R⟩ := h
  unfold eqD at R
  cases e : eqN st depth a b with
  | none => rw [e] at R; exact R.elim
  | some k =>
    rw [e] at R
    have h := (eq_sound I W depth a b k e X.A x y v u ra rb rx ry (by show X.A.units + 50 < cLine; omega)).2.1
    exact h X.prog X.w X.xe _ ⟨.bl k, H, I, rfl, Run.now (k := Val X.K Q) R W _ (Rep.bl_i.mpr rfl)⟩
theorem op_neD (hu : X.A.units + 64 < cLine) : OpD X EX (compareOp .NotEq) neD := by
  intro pins s σ H x y v u Q I rx ry h
  obtain ⟨O, a, b, st, W, ra, rb, R⟩ := h
  unfold neD at R
  cases e : eqN st depth a b with
  | none => rw [e] at R; exact R.elim
  | some k =>
    rw [e] at R
    have h := (eq_sound I W depth a b k e X.A x y v u ra rb rx ry (by show X.A.units + 50 < cLine; omega)).2.2
    exact h X.prog X.w X.xe _ ⟨.bl (!k), H, I, rfl, Run.now (k := Val X.K Q) R W _ (Rep.bl_i.mpr rfl)⟩
noncomputable def cmpD (g : Int → Int → Bool) : D → D → Sto → Out D
  | .int a, .int b, st => .ok (.bl (g a b)) st
  | _, _, _ => .bad
theorem op_cmpD {f : Value → Value → Sem Value} {g : Int → Int → Bool} (h : OpR X f (rI0 fun i j => .bl (g i j))) : OpD X EX f (cmpD g) := by
  intro pins s σ H x y v u Q I rx ry h'
  obtain ⟨O, a, b, st, W, ra, rb, R⟩ := h'
  cases a <;> cases b <;> first | exact R.elim | skip
  rename_i i j
  rw [Rep.int_i] at ra rb
  subst ra rb
  exact h pins s σ H _ _ v u Q I rx ry ⟨i, j, rfl, rfl, Run.now (k := Val X.K Q) R W _ (Rep.bl_i.mpr rfl)⟩
noncomputable def ltD := cmpD fun i j => decide (i < j)
noncomputable def leD := cmpD fun i j => decide (i ≤ j)
noncomputable def gtD := cmpD fun i j => decide (j < i)
noncomputable def geD := cmpD fun i j => decide (j ≤ i)
theorem op_gtD : OpD X EX (compareOp .Gt) gtD := op_cmpD op_gt
/-- is None -/
noncomputable def isN : D → Bool
  | .non => true
  | _ => false
noncomputable def isD : D → D → Sto → Out D
  | a, .non, st => .ok (.bl (isN a)) st
  | _, _, _ => .bad
noncomputable def isNotD : D → D → Sto → Out D
  | a, .non, st => .ok (.bl (!isN a)) st
  | _, _, _ => .bad
/-- x in a list or a tuple -/
noncomputable def inN (st : Sto) (n : Nat) (x : D) : List D → Option Bool
  | [] => some false
  | y :: ys => match eqN st n y x, inN st n x ys with
    | some a, some b => some (a || b)
    | _, _ => none
noncomputable def itemsOf (st : Sto) : D → Option (List D)
  | .tup xs => some xs
  | d => seqL st d
noncomputable def inD (x c : D) (st : Sto) : Out D := match itemsOf st c with
  | some ys => match inN st depth x ys with
    | some k => .ok (.bl k) st
    | none => .bad
  | none => .bad
noncomputable def notInD (x c : D) (st : Sto) : Out D := match itemsOf st c with
  | some ys => match inN st depth x ys with
    | some k => .ok (.bl (!k)) st
    | none => .bad
  | none => .bad
open Classical in
theorem in_items {pins : List (Addr × Obj)} {σ : L2.St} {s : Shared} {O : List Addr} {H : Hp} {st : Sto} (I : Inv X pins σ H s) (W : WR X.K O H st) {x : D} {vx : V} {ux : Value} (rx : Rep X.K O H x vx) (qx : RelV vx ux) {A : Around} (hA : A.units + depth < cLine) :
    ∀ {ys : List D} {vs : List V} {its : List Value} {k : Bool}, inN st depth x ys = some k → Reps X.K O H ys vs → Vals vs its →
      ∃ e : Value → Bool, (∀ z, e z = decide (∃ d v, Rep X.K O H d v ∧ RelV v z ∧ eqN st depth d x = some true)) ∧ (∀ z ∈ its, SeqAt.EqAt A s z ux (e z)) ∧ its.any e = k
  | [], vs, its, k, h, r, q => by
    rw [Reps.nil_i] at r
    subst r
    cases q
    simp only [inN, Option.some.injEq] at h
    subst h
    exact ⟨fun z => decide (∃ d v, Rep X.K O H d v ∧ RelV v z ∧ eqN st depth d x = some true), fun _ => rfl, (fun z hz => (by cases hz)), rfl⟩
  | y :: ys, vs, its, k, h, r, q => by
    obtain ⟨v, vs', rfl, ry, rs⟩ := Reps.cons_i.mp r
    cases q with
    | cons q1 q2 =>
      rename_i u us
      unfold inN at h
      cases e1 : eqN st depth y x with
      | none => rw [e1] at h; cases h
      | some a =>
        cases e2 : inN st depth x ys with
        | none => rw [e1, e2] at h; cases h
        | some b =>
          rw [e1, e2] at h
          simp only [Option.some.injEq] at h
          obtain ⟨e, he, h1, h2⟩ := in_items I W rx qx hA e2 rs q2
          have hu : e u = a := by
            rw [he u]
            cases a with
            | true => exact decide_eq_true ⟨y, v, ry, q1, e1⟩
            | false =>
              refine decide_eq_false ?_
              rintro ⟨d, v', r', q', e'⟩
              have ev : v' = v := q'.inj q1
              subst ev
              have ed := Rep.inj I W d y v' r' ry
              subst ed
              rw [e1] at e'
              cases e'
          refine ⟨e, he, fun z hz => ?_, ?_⟩
          · rcases List.mem_cons.mp hz with rfl | hz
            · rw [hu]
              exact (eq_sound I W depth y x a e1 A v vx z ux ry rx q1 qx hA).1
            · exact h1 z hz
          · rw [List.any_cons, hu, h2]
            exact h
theorem in_units {A : Around} (hu : A.units + 64 < cLine) : A.in1.units + depth < cLine := by
  show A.units + 1 + 50 < cLine
  omega
theorem op_notInD (hu : X.A.units + 64 < cLine) : OpD X EX (compareOp .NotIn) notInD := by
  intro pins s σ H x y v u Q I rx ry h
  obtain ⟨O, a, b, st, W, ra, rb, R⟩ := h
  unfold notInD at R
  cases e1 : itemsOf st b with
  | none => rw [e1] at R; exact R.elim
  | some ys =>
    rw [e1] at R
    dsimp only at R
    cases e2 : inN st depth a ys with
    | none => rw [e2] at R; exact R.elim
    | some k =>
      rw [e2] at R
      have fin : EP X pins σ Q (.bool (!k)) s := ⟨.bl (!k), H, I, rfl, Run.now (k := Val X.K Q) R W _ (Rep.bl_i.mpr rfl)⟩
      by_cases hb : ∃ zs, b = .tup zs
      · obtain ⟨zs, rfl⟩ := hb
        simp only [itemsOf, Option.some.injEq] at e1
        subst e1
        rw [Rep.tup_i] at rb
        obtain ⟨p, vs, rfl, q, r⟩ := rb
        cases ry
        obtain ⟨its, hv, hp, _⟩ := I.tuple (SqT.of q)
        obtain ⟨e, _, h1, h2⟩ := in_items I W ra rx (in_units hu) e2 r hv
        exact SeqAt.notIn_tupleAt e hp (fun z hz => h1 z (by simpa using hz)) (by simpa [h2] using fin)
      · have e3 : seqL st b = some ys := by
          cases b <;> first | exact e1 | exact absurd ⟨_, rfl⟩ hb
        obtain ⟨p, vs, rfl, q, r⟩ := rdL W rb e3
        cases ry
        obtain ⟨its, hv, hp, _⟩ := I.list q
        obtain ⟨e, _, h1, h2⟩ := in_items I W ra rx (in_units hu) e2 r hv
        exact SeqAt.notIn_listAt e hp.isList (fun z hz => h1 z (by simpa using hz)) (by simpa [h2] using fin)
end
end DL

end
/-! DL5 -/
section
set_option Elab.async false
set_option linter.all false
set_option maxRecDepth 100000
/-! DL part 5: slices, items, calls, attributes -/
namespace DL
open PySem PySem.Spec PyProof.Rows L2
section
variable {X : Cx} {EX : EXT} {a b c e : Expr} {fa fb fc : DE} {pos p2 : Pos} {ta tb : DT}
/-! ### slices -/
noncomputable abbrev DO := Ev → Sto → Out (Option Int)
noncomputable def tDO (K : PySem.W.Frag) (EX : EXT) (f : DO) : TO := fun σ H Q => ∃ O ρ st, WR K O H st ∧ REnv K O H ρ σ ∧ Run K EX O H (f ρ st) (fun o _ _ H' => Q o H')
noncomputable def PDO (X : Cx) (EX : EXT) (e : Option Expr) (f : DO) : Prop := PO X e (tDO X.K EX f)
noncomputable def dNoPart : DO := fun _ st => .ok none st
noncomputable def asInt : D → Sto → Out (Option Int)
  | .int i, st => .ok (some i) st
  | _, _ => .bad
noncomputable def dPart (f : DE) : DO := fun ρ st => (f ρ st).bind asInt
theorem PO.mono {e : Option Expr} {t t' : TO} (h : PO X e t) (f : ∀ σ H Q, t' σ H Q → t σ H Q) : PO X e t' := fun pins s σ H Q I q => h pins s σ H Q I (f σ H Q q)
theorem pdo_none : PDO X EX none dNoPart := by
  refine PO.mono po_none ?_
  rintro σ H Q ⟨O, ρ, st, W, E, R⟩
  exact Run.now (k := fun o _ _ H' => Q o H') R W
theorem pdo_some {f : DE} (h : PD X EX e f) : PDO X EX (some e) (dPart f) := by
  refine PO.mono (po_some h) ?_
  rintro σ H Q ⟨O, ρ, st, W, E, R⟩
  refine ⟨O, ρ, st, W, E, R.bind.mono fun d st1 O1 H1 k1 W1 R1 v r => ?_⟩
  cases d with
  | int i => exact ⟨i, Rep.int_i.mp r, Run.now (k := fun o _ _ H' => Q o H') R1 W1⟩
  | _ => exact R1.elim
noncomputable def cutL {α : Type} (xs : List α) (lo hi : Option Int) : List α := (xs.drop (HT.sIx xs.length 0 lo)).take (HT.sIx xs.length xs.length hi - HT.sIx xs.length 0 lo)
theorem Reps.cut {K : PySem.W.Frag} {O : List Addr} {H : Hp} {ds : List D} {vs : List V} (r : Reps K O H ds vs) (lo hi : Option Int) : Reps K O H (cutL ds lo hi) (cutV vs lo hi) := by
  unfold cutL cutV
  rw [r.length]
  exact (r.drop _).take _
noncomputable def rDS (K : PySem.W.Frag) (EX : EXT) (g : D → Option Int → Option Int → Sto → Out D) : V → Option Int → Option Int → Hp → VK → Prop := fun x lo hi H Q => ∃ O d st, WR K O H st ∧ Rep K O H d x ∧ Run K EX O H (g d lo hi st) (Val K Q)
noncomputable def rDSF (K : PySem.W.Frag) (EX : EXT) (g : D → Option Int → Option Int → Sto → Out (List D)) : V → Option Int → Option Int → Hp → VK → Prop := fun x lo hi H Q => ∃ O d st, WR K O H st ∧ Rep K O H d x ∧ Run K EX O H (g d lo hi st) (New K Q)
noncomputable def dSl {α : Type} (g : D → Option Int → Option Int → Sto → Out α) (f : DE) (l h : DO) : Ev → Sto → Out α := fun ρ st => (f ρ st).bind fun x st1 => (l ρ st1).bind fun lo st2 => (h ρ st2).bind fun hi st3 => g x lo hi st3
theorem pdf_slice {g : D → Option Int → Option Int → Sto → Out (List D)} {lo hi : Option Expr} {fl fh : DO} (hr : SlR X (rDSF X.K EX g)) (he : PD X EX e fa) (hl : PDO X EX lo fl) (hh : PDO X EX hi fh) : PDF X EX (.Subscript e (.Slice lo hi none p2) pos) (dSl g fa fl fh) := by
  refine PE.mono (pe_slice hr he hl hh) ?_
  rintro σ H Q ⟨O, ρ, st, W, E, R⟩
  refine ⟨O, ρ, st, W, E, R.bind.mono fun x st1 O1 H1 k1 W1 R1 v r => ?_⟩
  refine ⟨O1, ρ, st1, W1, E.mono k1, R1.bind.mono fun lo st2 O2 H2 k2 W2 R2 => ?_⟩
  refine ⟨O2, ρ, st2, W2, E.mono (k1.trans k2), R2.bind.mono fun hi st3 O3 H3 k3 W3 R3 => ?_⟩
  exact ⟨O3, x, st3, W3, Rep.mono (k2.trans k3) x v r, R3⟩
noncomputable def cutT : D → Option Int → Option Int → Sto → Out D
  | .tup xs, lo, hi, st => .ok (.tup (cutL xs lo hi)) st
  | _, _, _, _ => .bad
noncomputable def cutF (d : D) (lo hi : Option Int) (st : Sto) : Out (List D) := match seqL st d with
  | some xs => .ok (cutL xs lo hi) st
  | none => .bad
theorem sl_F : SlR X (rDSF X.K EX cutF) := by
  intro pins s σ H x v vl vu lo hi sl Q I rx hs pl pu h
  obtain ⟨O, d, st, W, r, R⟩ := h
  unfold cutF at R
  cases e : seqL st d with
  | none => rw [e] at R; exact R.elim
  | some xs =>
    rw [e] at R
    obtain ⟨a, vs, rfl, q, rs⟩ := rdL W r e
    exact sl_list pins s σ H _ v vl vu lo hi sl Q I rx hs pl pu ⟨a, vs, rfl, q, fun p hp => Run.now (k := New X.K Q) R W p _ (rs.cut lo hi) hp⟩

/-! ### items -/
noncomputable def ixD (d : D) (i : D) (st : Sto) : Out D := match i with
  | .int k => match d with
    | .str z => if z.length ≤ small then (match atI z.cps.toList k with
      | some c => .ok (.str ⟨#[c]⟩) st
      | none => .bad) else .bad
    | _ => match itemsOf st d with
      | some xs => match atI xs k with
        | some x => .ok x st
        | none => .bad
      | none => .bad
  | _ => .bad
theorem Reps.atI {K : PySem.W.Frag} {O : List Addr} {H : Hp} {ds : List D} {vs : List V} {k : Int} {d : D} (r : Reps K O H ds vs) (h : L2.atI ds k = some d) : ∃ v, L2.atI vs k = some v ∧ Rep K O H d v := by
  unfold L2.atI at h ⊢
  rw [← r.length]
  cases e : ixN ds.length k with
  | none => rw [e] at h; cases h
  | some j =>
    rw [e] at h
    obtain ⟨v, h1, h2⟩ := r.get (i := j) (d := d) h
    exact ⟨v, h1, h2⟩
theorem ix_D : IxR X (rD2 X.K EX ixD) := by
  intro value slice pins s σ H x y v u Q I rx ry h hsub
  obtain ⟨O, d, i, st, W, rd, ri, R⟩ := h
  cases i with
  | int k =>
    rw [Rep.int_i] at ri
    subst ri
    have seq : ∀ xs, itemsOf st d = some xs → Run X.K EX O H (match L2.atI xs k with
        | some x => .ok x st
        | none => .bad) (Val X.K Q) → wpAny (model X.prog X.w) X.A (subscriptTail value slice v u) (EP X pins σ Q) X.xe s := by
      intro xs e1 R'
      clear R
      cases e2 : L2.atI xs k with
      | none => rw [e2] at R'; exact R'.elim
      | some z =>
        rw [e2] at R'
        by_cases hb : ∃ zs, d = .tup zs
        · obtain ⟨zs, rfl⟩ := hb
          simp only [itemsOf, Option.some.injEq] at e1
          subst e1
          rw [Rep.tup_i] at rd
          obtain ⟨p, vs, rfl, q, r⟩ := rd
          obtain ⟨w, h1, h2⟩ := r.atI e2
          exact ix_tup value slice pins s σ H _ _ v u Q I rx ry ⟨p, vs, k, w, rfl, rfl, SqT.of q, h1, Run.now (k := Val X.K Q) R' W _ h2⟩ hsub
        · have e3 : seqL st d = some xs := by
            cases d <;> first | exact e1 | exact absurd ⟨_, rfl⟩ hb
          obtain ⟨p, vs, rfl, q, r⟩ := rdL W rd e3
          obtain ⟨w, h1, h2⟩ := r.atI e2
          exact ix_list value slice pins s σ H _ _ v u Q I rx ry ⟨p, vs, k, w, rfl, rfl, q, h1, Run.now (k := Val X.K Q) R' W _ h2⟩ hsub
    cases d with
    | str z =>
      rw [Rep.str_i] at rd
      subst rd
      dsimp only [ixD] at R
      by_cases hz : z.length ≤ small
      · rw [if_pos hz] at R
        cases e : L2.atI z.cps.toList k with
        | none => rw [e] at R; exact R.elim
        | some c =>
          rw [e] at R
          exact ix_str value slice pins s σ H _ _ v u Q I rx ry ⟨z, k, c, rfl, rfl, Nat.le_trans hz small_le, e, Run.now (k := Val X.K Q) R W _ (Rep.str_i.mpr rfl)⟩ hsub
      · rw [if_neg hz] at R; exact R.elim
    | tup xs => exact seq xs rfl R
    | lst xs => exact seq xs rfl R
    | scr xs => exact seq xs rfl R
    | res j =>
      dsimp only [ixD] at R
      cases e : itemsOf st (.res j) with
      | none => rw [e] at R; exact R.elim
      | some xs => rw [e] at R; exact seq xs e R
    | _ => exact R.elim
  | _ => exact R.elim
theorem pd_ix (ha : PD X EX a fa) (hb : PD X EX b fb) (hs : PlainIx b := by intro _ _; rfl) : PD X EX (.Subscript a b pos) (dBin ixD fa fb) := PE.mono (pe_ix ix_D ha hb hs) bin_imp

/-! ### built-in functions -/
noncomputable def dCall {α : Type} (g : List D → Sto → Out α) (f : DA) : Ev → Sto → Out α := fun ρ st => (f ρ st).bind g
theorem call_imp {g : List D → Sto → Out D} {f : DA} : ∀ σ H Q, tD X.K EX (dCall g f) σ H Q → tCB (rDC X.K EX g) (tDA X.K EX f) σ H Q := by
  rintro σ H Q ⟨O, ρ, st, W, E, R⟩
  exact ⟨O, ρ, st, W, E, R.bind.mono fun ds st1 O1 H1 k1 W1 R1 vs r => ⟨O1, ds, st1, W1, r, R1⟩⟩
theorem callF_imp {g : List D → Sto → Out (List D)} {f : DA} : ∀ σ H Q, tDF X.K EX (dCall g f) σ H Q → tCB (rDCF X.K EX g) (tDA X.K EX f) σ H Q := by
  rintro σ H Q ⟨O, ρ, st, W, E, R⟩
  exact ⟨O, ρ, st, W, E, R.bind.mono fun ds st1 O1 H1 k1 W1 R1 vs r => ⟨O1, ds, st1, W1, r, R1⟩⟩
theorem pd_callB {x : Str} {p : Pos} {es : List Expr} {id : String} {g : List D → Sto → Out D} {f : DA} (hc : CallD X EX (.builtin id) g) (hg : Gl X x) (hm : X.mg x = none) (hv : bootBuiltins x = some (.builtin id)) (ha : PDA X EX (e :: es) f) (hn : x ≠ "__name__" := by decide) (hdb : (x == ("__debug__" : Str)) = false := by decide)
    (he : starEach (e :: es) X.env = (false, eval e X.env) :: starEach es X.env := by rfl) (hpl : (backTo pos (starEach es X.env)).any (·.1) = false := by rfl) : PD X EX (.Call (.Name x p) (e :: es) [] pos) (dCall g f) := PE.mono (pe_callB hc hg hm hv ha hn hdb he hpl) call_imp
theorem pd_callTy {x : Str} {p : Pos} {es : List Expr} {T : String} {g : List D → Sto → Out D} {f : DA} (hc : CallD X EX (.type T) g) (hg : Gl X x) (hm : X.mg x = none) (hv : bootBuiltins x = some (.type T)) (ha : PDA X EX (e :: es) f) (hn : x ≠ "__name__" := by decide) (hdb : (x == ("__debug__" : Str)) = false := by decide)
    (he : starEach (e :: es) X.env = (false, eval e X.env) :: starEach es X.env := by rfl) (hpl : (backTo pos (starEach es X.env)).any (·.1) = false := by rfl) : PD X EX (.Call (.Name x p) (e :: es) [] pos) (dCall g f) := PE.mono (pe_callTy hc hg hm hv ha hn hdb he hpl) call_imp
theorem pdf_callTy {x : Str} {p : Pos} {es : List Expr} {T : String} {g : List D → Sto → Out (List D)} {f : DA} (hc : CallF X EX (.type T) g) (hg : Gl X x) (hm : X.mg x = none) (hv : bootBuiltins x = some (.type T)) (ha : PDA X EX (e :: es) f) (hn : x ≠ "__name__" := by decide) (hdb : (x == ("__debug__" : Str)) = false := by decide)
    (he : starEach (e :: es) X.env = (false, eval e X.env) :: starEach es X.env := by rfl) (hpl : (backTo pos (starEach es X.env)).any (·.1) = false := by rfl) : PDF X EX (.Call (.Name x p) (e :: es) [] pos) (dCall g f) := PE.mono (pe_callTy hc hg hm hv ha hn hdb he hpl) callF_imp
noncomputable def lenD : List D → Sto → Out D
  | [.str x], st => if x.length ≤ small then .ok (.int x.length) st else .bad
  | [d], st => match itemsOf st d with
    | some xs => .ok (.int xs.length) st
    | none => .bad
  | _, _ => .bad
theorem itemsOf_rd {O : List Addr} {H : Hp} {st : Sto} (W : WR X.K O H st) {d : D} {v : V} {xs : List D} (r : Rep X.K O H d v) (e : itemsOf st d = some xs) : ∃ p vs, v = .ref p ∧ (SqL X.K H p vs ∨ H p = some (.tup vs)) ∧ Reps X.K O H xs vs := by
  by_cases hb : ∃ zs, d = .tup zs
  · obtain ⟨zs, rfl⟩ := hb
    simp only [itemsOf, Option.some.injEq] at e
    subst e
    rw [Rep.tup_i] at r
    obtain ⟨p, vs, rfl, q, r⟩ := r
    exact ⟨p, vs, rfl, .inr q, r⟩
  · have e3 : seqL st d = some xs := by
      cases d <;> first | exact e | exact absurd ⟨_, rfl⟩ hb
    obtain ⟨p, vs, rfl, q, r⟩ := rdL W r e3
    exact ⟨p, vs, rfl, .inl q, r⟩
theorem Reps.one_of {K : PySem.W.Frag} {O : List Addr} {H : Hp} {d : D} {vs : List V} (h : Reps K O H [d] vs) : ∃ v, vs = [v] ∧ Rep K O H d v := by
  obtain ⟨v, r, rfl, q, t⟩ := Reps.cons_i.mp h
  rw [Reps.nil_i] at t
  subst t
  exact ⟨v, rfl, q⟩
theorem call_lenD : CallD X EX (.builtin "len") lenD := by
  intro pins s σ H xs us Q I rx h
  obtain ⟨O, ds, st, W, r, R⟩ := h
  match ds, r, R with
  | [], _, R => exact R.elim
  | [d], r, R =>
    obtain ⟨v, rfl, rv⟩ := r.one_of
    have seq : ∀ zs, itemsOf st d = some zs → Run X.K EX O H (.ok (.int zs.length) st) (Val X.K Q) → wpAny (model X.prog X.w) X.A (PySem.call (.builtin "len") us) (EP X pins σ Q) X.xe s := by
      intro zs e R
      obtain ⟨p, vs, rfl, q, rs⟩ := itemsOf_rd W rv e
      exact call_len_seq pins s σ H _ us Q I rx ⟨p, vs, rfl, q.imp_right SqT.of, by rw [← rs.length]; exact Run.now (k := Val X.K Q) R W _ (Rep.int_i.mpr rfl)⟩
    cases d with
    | str x =>
      rw [Rep.str_i] at rv
      subst rv
      dsimp only [lenD] at R
      by_cases hz : x.length ≤ small
      · rw [if_pos hz] at R
        exact call_len_str pins s σ H _ us Q I rx ⟨x, rfl, Nat.le_trans hz small_le, Run.now (k := Val X.K Q) R W _ (Rep.int_i.mpr rfl)⟩
      · rw [if_neg hz] at R; exact R.elim
    | tup zs => exact seq zs rfl R
    | lst zs => exact seq zs rfl R
    | scr zs => exact seq zs rfl R
    | res j =>
      dsimp only [lenD] at R
      cases e : itemsOf st (.res j) with
      | none => rw [e] at R; exact R.elim
      | some xs => rw [e] at R; exact seq xs e R
    | _ => exact R.elim
  | d1 :: _ :: _, _, R => cases d1 <;> exact R.elim
/-- list(x): a new list; tuple(x) -/
noncomputable def listF : List D → Sto → Out (List D)
  | [d], st => match itemsOf st d with
    | some xs => .ok xs st
    | none => .bad
  | _, _ => .bad
noncomputable def tupleD : List D → Sto → Out D
  | [d], st => match itemsOf st d with
    | some xs => .ok (.tup xs) st
    | none => .bad
  | _, _ => .bad
theorem call_listF : CallF X EX (.type "list") listF := by
  intro pins s σ H xs us Q I rx h
  obtain ⟨O, ds, st, W, r, R⟩ := h
  match ds, r, R with
  | [], _, R => exact R.elim
  | [d], r, R =>
    obtain ⟨v, rfl, rv⟩ := r.one_of
    dsimp only [listF] at R
    cases e : itemsOf st d with
    | none => rw [e] at R; exact R.elim
    | some zs =>
      rw [e] at R
      obtain ⟨p, vs, rfl, q, rs⟩ := itemsOf_rd W rv e
      exact call_list_of pins s σ H _ us Q I rx ⟨p, vs, rfl, q.imp_right SqT.of, fun l hl => Run.now (k := New X.K Q) R W l _ rs hl⟩
  | _ :: _ :: _, _, R => exact R.elim
theorem call_tupleD : CallD X EX (.type "tuple") tupleD := by
  intro pins s σ H xs us Q I rx h
  obtain ⟨O, ds, st, W, r, R⟩ := h
  match ds, r, R with
  | [], _, R => exact R.elim
  | [d], r, R =>
    obtain ⟨v, rfl, rv⟩ := r.one_of
    dsimp only [tupleD] at R
    cases e : itemsOf st d with
    | none => rw [e] at R; exact R.elim
    | some zs =>
      rw [e] at R
      obtain ⟨p, vs, rfl, q, rs⟩ := itemsOf_rd W rv e
      rcases q with q | q
      · exact call_tuple_of pins s σ H _ us Q I rx ⟨p, vs, rfl, .inl ⟨q, fun l hl => new_tup W rs hl R⟩⟩
      · exact call_tuple_of pins s σ H _ us Q I rx ⟨p, vs, rfl, .inr ⟨SqT.of q, Run.now (k := Val X.K Q) R W _ (Rep.tup_i.mpr ⟨p, vs, rfl, q, rs⟩)⟩⟩
  | _ :: _ :: _, _, R => exact R.elim
noncomputable def min2D : List D → Sto → Out D
  | [.int i, .int j], st => .ok (.int (if j < i then j else i)) st
  | _, _ => .bad
noncomputable def max2D : List D → Sto → Out D
  | [.int i, .int j], st => .ok (.int (if j > i then j else i)) st
  | _, _ => .bad
noncomputable def absD : List D → Sto → Out D
  | [.int i], st => .ok (.int (if i < 0 then -i else i)) st
  | _, _ => .bad
noncomputable def intD : List D → Sto → Out D
  | [.int i], st => .ok (.int i) st
  | [.bl k], st => .ok (.int (if k then 1 else 0)) st
  | _, _ => .bad
end
end DL

end
/-! DL6 -/
section
set_option Elab.async false
set_option linter.all false
set_option maxRecDepth 100000
/-! DL part 6: own defs, classes, statements -/
namespace DL
open PySem PySem.Spec PyProof.Rows L2
/-! ### a def's promise by its meaning -/
noncomputable abbrev FD := List D → Sto → Out D
noncomputable def spD (K : PySem.W.Frag) (F : FD) : Sp := fun vs H Q E => ∃ O ds st, WR K O H st ∧ Reps K O H ds vs ∧ Run K (fun c _ _ H' => E (.ref c) Option.none H') O H (F ds st) (Val K Q)
/-- what a caller wants of an exception -/
noncomputable def eOf (EX : EXT) : XK := fun Cv _ H' => ∃ c st O', Cv = .ref c ∧ EX c st O' H'
noncomputable abbrev XeOk (CX : CXT) (X : Cx) (EX : EXT) : Prop := Passes CX X (eOf EX)
theorem xe0 {X : Cx} {EX : EXT} : XeOk CX0 X EX := fun _ _ _ _ _ _ _ h => h.elim
theorem Run.ex {K : PySem.W.Frag} {EX EX' : EXT} {α : Type} {O : List Addr} {H : Hp} {r : Out α} {k : α → Sto → List Addr → Hp → Prop} (h : Run K EX O H r k) (f : ∀ c st O' H', EX c st O' H' → EX' c st O' H') : Run K EX' O H r k := by
  cases r with
  | ok a st => exact h
  | exc c st => exact fun O' H' kp W => f _ _ _ _ (h O' H' kp W)
  | bad => exact h
theorem Run.eOf {K : PySem.W.Frag} {EX : EXT} {α : Type} {O : List Addr} {H : Hp} {r : Out α} {k : α → Sto → List Addr → Hp → Prop} (h : Run K EX O H r k) : Run K (fun c _ _ H' => eOf EX (.ref c) Option.none H') O H r k :=
  h.ex fun c st O' H' z => ⟨c, st, O', rfl, z⟩
theorem Flds.look {K : PySem.W.Frag} {O : List Addr} {H : Hp} {f : Str} : ∀ {ds : List (Str × D)} {vs : List (Str × V)}, Flds K O H ds vs →
    (ds.lookup f = none → vs.lookup f = none) ∧ ∀ d, ds.lookup f = some d → ∃ v, vs.lookup f = some v ∧ Rep K O H d v
  | [], vs, h => by
    unfold Flds at h
    subst h
    exact ⟨fun _ => rfl, fun d e => by cases e⟩
  | (x, d) :: ds, vs, h => by
    unfold Flds at h
    obtain ⟨v, r, rfl, q, t⟩ := h
    obtain ⟨h1, h2⟩ := Flds.look (f := f) t
    simp only [List.lookup_cons]
    cases hx : f == x with
    | true => exact ⟨fun e => (by cases e), fun d' e => ⟨v, rfl, by cases e; exact q⟩⟩
    | false => exact ⟨h1, h2⟩
noncomputable def putFD (f : Str) (d : D) : List (Str × D) → List (Str × D)
  | [] => [(f, d)]
  | (g, x) :: r => if g = f then (g, d) :: r else (g, x) :: putFD f d r
theorem Flds.put {K : PySem.W.Frag} {O : List Addr} {H : Hp} {f : Str} {d : D} {v : V} (q : Rep K O H d v) : ∀ {ds : List (Str × D)} {vs : List (Str × V)}, Flds K O H ds vs → Flds K O H (putFD f d ds) (putF f v vs)
  | [], vs, h => by
    unfold Flds at h
    subst h
    show Flds K O H [(f, d)] [(f, v)]
    unfold Flds
    exact ⟨v, [], rfl, q, by unfold Flds; rfl⟩
  | (x, e) :: ds, vs, h => by
    unfold Flds at h
    obtain ⟨u, r, rfl, q', t⟩ := h
    unfold putFD putF
    by_cases hx : x = f
    · rw [if_pos hx, if_pos hx]
      unfold Flds
      exact ⟨v, r, rfl, q, t⟩
    · rw [if_neg hx, if_neg hx]
      unfold Flds
      exact ⟨u, putF f v r, rfl, q', Flds.put q t⟩
theorem Flds.length {K : PySem.W.Frag} {O : List Addr} {H : Hp} : ∀ {ds : List (Str × D)} {vs : List (Str × V)}, Flds K O H ds vs → ds.length = vs.length
  | [], vs, h => by unfold Flds at h; subst h; rfl
  | (x, e) :: ds, vs, h => by
    unfold Flds at h
    obtain ⟨u, r, rfl, q', t⟩ := h
    rw [List.length_cons, List.length_cons, Flds.length t]
/-- an instance of C at the store -/
noncomputable def insAt (C : Addr) (st : Sto) : D → Option (Nat × List (Str × D))
  | .res i => match st[i]? with
    | some (.ins C' fs) => if C' = C then some (i, fs) else none
    | _ => none
  | _ => none
theorem insAt_rd {K : PySem.W.Frag} {O : List Addr} {H : Hp} {st : Sto} (W : WR K O H st) {C : Addr} {d : D} {v : V} {i : Nat} {fs : List (Str × D)} (r : Rep K O H d v) (e : insAt C st d = some (i, fs)) :
    d = .res i ∧ ∃ a dx vfs, v = .ref a ∧ O[i]? = some a ∧ H a = some (.ins C dx vfs) ∧ Flds K O H fs vfs := by
  cases d with
  | res j =>
    dsimp only [insAt] at e
    cases hs : st[j]? with
    | none => rw [hs] at e; cases e
    | some s =>
      rw [hs] at e
      cases s with
      | lst xs => cases e
      | dct kvs => cases e
      | dtt kvs => cases e
      | ins C' fs' =>
        dsimp only at e
        by_cases hC : C' = C
        · rw [if_pos hC] at e
          cases e
          subst hC
          rw [Rep.res_i] at r
          obtain ⟨a, rfl, q⟩ := r
          obtain ⟨dx, vfs, h1, h2⟩ := W.at_ _ _ _ q hs
          exact ⟨rfl, a, dx, vfs, rfl, q, h1, h2⟩
        · rw [if_neg hC] at e; cases e
  | _ => cases e
section
variable {X : Cx} {EX : EXT} {a b c e o : Expr} {fa fb fc fo : DE} {pos p apos : Pos} {ta tb : DT} {CX : CXT} {k : Nat} {f C : Addr} {fd : FuncData} {ps : List Str} {n : Nat} {F : FD} {x m : Str} {es : List Expr} {g : DA}
theorem pd_call (G : FnOk X.prog X.w X.K X.mg X.base CX k f fd ps (spD X.K F)) (hr : Room k X.A) (hg : Gl X x) (hm : X.mg x = some (.ref f)) (hk : PySem.W.keepIn X.K (.ref f) = true) (hb : Binds X.K fd ps []) (hx : XeOk CX X EX) (ha : PDA X EX (e :: es) g)
    (hdb : (x == ("__debug__" : Str)) = false := by decide) (he : starEach (e :: es) X.env = (false, eval e X.env) :: starEach es X.env := by rfl) (hpl : (backTo pos (starEach es X.env)).any (·.1) = false := by rfl) :
    PD X EX (.Call (.Name x p) (e :: es) [] pos) (dCall F g) := by
  refine PE.mono (pe_call G hr hg hm hk hb .nil hx ha hdb he hpl) ?_
  rintro σ H Q ⟨O, ρ, st, W, E, R⟩
  refine ⟨O, ρ, st, W, E, R.bind.mono fun ds st1 O1 H1 k1 W1 R2 vs r => ?_⟩
  dsimp only
  rw [List.append_nil]
  exact ⟨O1, ds, st1, W1, r, R2.eOf⟩
/-! ### methods, attributes, making -/
noncomputable def dMeth (C : Addr) (m : Str) (F : FD) (fo : DE) (g : DA) : DE := fun ρ st => (fo ρ st).bind fun d st1 => match insAt C st1 d with
  | some (_, fs) => if fs.lookup m = none then (g ρ st1).bind fun ds st2 => F (d :: ds) st2 else .bad
  | none => .bad
theorem meth_imp {g : DA} : ∀ σ H Q, tD X.K EX (dMeth C m F fo g) σ H Q → tMeth C m (spD X.K F) [] (eOf EX) (tD X.K EX fo) (tDA X.K EX g) σ H Q := by
  rintro σ H Q ⟨O, ρ, st, W, E, R⟩
  refine ⟨O, ρ, st, W, E, R.bind.mono fun d st1 O1 H1 k1 W1 R1 v r => ?_⟩
  cases e : insAt C st1 d with
  | none => rw [e] at R1; exact R1.elim
  | some q =>
    obtain ⟨i, fs⟩ := q
    rw [e] at R1
    dsimp only at R1
    obtain ⟨rfl, a, dx, vfs, rfl, ho, hH, hf⟩ := insAt_rd W1 r e
    by_cases hm : fs.lookup m = none
    · rw [if_pos hm] at R1
      refine ⟨a, dx, vfs, rfl, hH, hf.look.1 hm, O1, ρ, st1, W1, E.mono k1, R1.bind.mono fun ds st2 O2 H2 k2 W2 R2 vs rs => ?_⟩
      dsimp only
      rw [List.append_nil]
      exact ⟨O2, _, st2, W2, Reps.cons_i.mpr ⟨_, vs, rfl, Rep.mono k2 _ _ r, rs⟩, R2.eOf⟩
    · rw [if_neg hm] at R1; exact R1.elim
theorem pd_meth {pl : Sem Bool} (he : PD X EX o fo) (c : Cls X.K C) (hm : Meth X.K C m f) (G : FnOk X.prog X.w X.K X.mg X.base CX k f fd ps (spD X.K F)) (hr : Room k X.A) (hb : Binds X.K fd ps []) (hx : XeOk CX X EX) (ha : PDA X EX (e :: es) g)
    (hst : starEach (e :: es) X.env = (false, eval e X.env) :: starEach es X.env := by rfl) (hpl : (backTo pos (starEach es X.env)).any (·.1) = false := by rfl)
    (ht : eval (.Call (.Attribute o m apos) (e :: es) [] pos) X.env = (do
      let ov ← eval o X.env
      standAt apos.atName
      let (f, first) ← holding [ov] (getMethod ov m pl)
      callWith pos f first (backTo pos (starEach (e :: es) X.env)) (backToKw pos (keywordEach [] X.env))) := by rfl) :
    PD X EX (.Call (.Attribute o m apos) (e :: es) [] pos) (dMeth C m F fo g) := PE.mono (pe_meth he c hm G hr hb .nil hx ha hst hpl ht) meth_imp
theorem pd_meth0 {pl : Sem Bool} (he : PD X EX o fo) (c : Cls X.K C) (hm : Meth X.K C m f) (G : FnOk X.prog X.w X.K X.mg X.base CX k f fd ps (spD X.K F)) (hr : Room k X.A) (hb : Binds X.K fd ps []) (hx : XeOk CX X EX)
    (ht : eval (.Call (.Attribute o m apos) [] [] pos) X.env = (do
      let ov ← eval o X.env
      standAt apos.atName
      let (f, first) ← holding [ov] (getMethod ov m pl)
      callWith pos f first (backTo pos (starEach [] X.env)) (backToKw pos (keywordEach [] X.env))) := by rfl) :
    PD X EX (.Call (.Attribute o m apos) [] [] pos) (dMeth C m F fo dNil) := by
  refine PE.mono (pe_meth0 he c hm G hr hb .nil hx ht) fun σ H Q h => ?_
  obtain ⟨O, ρ, st, W, E, R⟩ := meth_imp (X := X) (EX := EX) σ H Q h
  refine ⟨O, ρ, st, W, E, R.mono fun d st1 O1 H1 k1 W1 R1 v r => ?_⟩
  obtain ⟨a, dx, fs, h1, h2, h3, O2, ρ2, st2, W2, E2, R2⟩ := R1 v r
  exact ⟨a, dx, fs, h1, h2, h3, Run.now (k := Vls X.K _) R2 W2 _ (Reps.nil_i.mpr rfl)⟩
noncomputable def dFld (C : Addr) (x : Str) (fo : DE) : DE := fun ρ st => (fo ρ st).bind fun d st1 => match insAt C st1 d with
  | some (_, fs) => match fs.lookup x with
    | some v => .ok v st1
    | none => .bad
  | none => .bad
theorem pd_fld (he : PD X EX e fo) (c : Cls X.K C) (na : NoAttr X.K C x) (hb : attributeBase e x X.env (eval e X.env) = eval e X.env := by rfl) : PD X EX (.Attribute e x pos) (dFld C x fo) := by
  refine PE.mono (pe_fld he hb) ?_
  rintro σ H Q ⟨O, ρ, st, W, E, R⟩
  refine ⟨O, ρ, st, W, E, R.bind.mono fun d st1 O1 H1 k1 W1 R1 v r => ?_⟩
  cases e : insAt C st1 d with
  | none => rw [e] at R1; exact R1.elim
  | some q =>
    obtain ⟨i, fs⟩ := q
    rw [e] at R1
    dsimp only at R1
    obtain ⟨rfl, a, dx, vfs, rfl, ho, hH, hf⟩ := insAt_rd W1 r e
    cases hl : fs.lookup x with
    | none => rw [hl] at R1; exact R1.elim
    | some w =>
      rw [hl] at R1
      obtain ⟨u, h1, h2⟩ := hf.look.2 w hl
      exact ⟨a, C, dx, vfs, u, rfl, hH, c, na, h1, Run.now (k := Val X.K Q) R1 W1 _ h2⟩
noncomputable def asNon : D → Sto → Out Unit
  | .non, st => .ok () st
  | _, _ => .bad
noncomputable def dMake (C : Addr) (F : FD) (g : DA) : DE := fun ρ st => (g ρ st).bind fun ds st1 => (F (.res st1.length :: ds) (st1 ++ [.ins C []])).bind fun d st2 => (asNon d st2).bind fun _ st3 => .ok (.res st1.length) st3
theorem make_imp {g : DA} : ∀ σ H Q, tD X.K EX (dMake C F g) σ H Q → tMake C (spD X.K F) [] (eOf EX) (tDA X.K EX g) σ H Q := by
  rintro σ H Q ⟨O, ρ, st, W, E, R⟩
  refine ⟨O, ρ, st, W, E, R.bind.mono fun ds st1 O1 H1 k1 W1 R1 vs rs => ?_⟩
  intro y dy hy hdy hne
  rw [List.append_nil]
  have hy' : (upd H1 dy (.own y)) y = none := by rw [upd_ne (Ne.symm hne)]; exact hy
  have kk : Keep X.K O1 H1 (O1 ++ [y]) (upd (upd H1 dy (.own y)) y (.ins C dy [])) := (Keep.laid hdy).trans (Keep.push hy')
  have WW : WR X.K (O1 ++ [y]) (upd (upd H1 dy (.own y)) y (.ins C dy [])) (st1 ++ [.ins C []]) := (W1.laid hdy).push' hy' ⟨dy, [], upd_same, by unfold Flds; rfl⟩
  refine ⟨O1 ++ [y], .res st1.length :: ds, st1 ++ [.ins C []], WW, Reps.cons_i.mpr ⟨.ref y, vs, rfl, rep_last W1.len, Reps.mono kk _ _ rs⟩, ?_⟩
  refine Run.eOf ?_
  refine (Run.later R1 kk).bind.mono fun d st2 O2 H2 k2 W2 R2 v r => ?_
  cases d with
  | non => exact ⟨Rep.non_i.mp r, Run.now (k := Val X.K Q) R2 W2 _ (Rep.mono k2 _ _ (rep_last W1.len))⟩
  | _ => exact R2.elim
theorem pd_make0 {fI : Addr} (M : Mk X.K C fI) (G : FnOk X.prog X.w X.K X.mg X.base CX k fI fd ps (spD X.K F)) (hr : Room (k + 1) X.A) (hg : Gl X x) (hm : X.mg x = some (.ref C)) (hb : Binds X.K fd ps []) (hx : XeOk CX X EX)
    (hdb : (x == ("__debug__" : Str)) = false := by decide) : PD X EX (.Call (.Name x p) [] [] pos) (dMake C F dNil) := by
  refine PE.mono (pe_make0 M G hr hg hm hb .nil hx hdb) fun σ H Q h => ?_
  obtain ⟨O, ρ, st, W, E, R⟩ := make_imp (X := X) (EX := EX) σ H Q h
  exact Run.now (k := Vls X.K _) R W _ (Reps.nil_i.mpr rfl)
end

/-! ### statements -/
inductive OutS where
  | nx (ρ : Ev) (st : Sto) | rt (d : D) (st : Sto) | bk (ρ : Ev) (st : Sto) | ct (ρ : Ev) (st : Sto) | exc (c : Addr) (st : Sto) | bad
noncomputable abbrev DS := Ev → Sto → OutS
noncomputable def RunS (K : PySem.W.Frag) (EX : EXT) (Dn : Ends) (O : List Addr) (H : Hp) : OutS → Prop
  | .nx ρ st => ∀ O' H' σ, Keep K O H O' H' → WR K O' H' st → REnv K O' H' ρ σ → Dn.nx σ H'
  | .bk ρ st => ∀ O' H' σ, Keep K O H O' H' → WR K O' H' st → REnv K O' H' ρ σ → Dn.bk σ H'
  | .ct ρ st => ∀ O' H' σ, Keep K O H O' H' → WR K O' H' st → REnv K O' H' ρ σ → Dn.ct σ H'
  | .rt d st => ∀ O' H' v, Keep K O H O' H' → WR K O' H' st → Rep K O' H' d v → Dn.rt v H'
  | .exc c st => ∀ O' H', Keep K O H O' H' → WR K O' H' st → EX c st O' H'
  | .bad => False
noncomputable def tDS (K : PySem.W.Frag) (EX : EXT) (g : DS) : TS := fun Dn σ H => ∃ O ρ st, WR K O H st ∧ REnv K O H ρ σ ∧ RunS K EX Dn O H (g ρ st)
noncomputable def PDs (X : Cx) (EX : EXT) (s : Stmt) (g : DS) : Prop := PS X s (tDS X.K EX g)
noncomputable def PDS (X : Cx) (EX : EXT) (ss : List Stmt) (g : DS) : Prop := PSs X ss (tDS X.K EX g)
theorem RunS.later {K : PySem.W.Frag} {EX : EXT} {Dn : Ends} {O O' : List Addr} {H H' : Hp} {r : OutS} (h : RunS K EX Dn O H r) (kp : Keep K O H O' H') : RunS K EX Dn O' H' r := by
  cases r with
  | bad => exact h
  | exc c st => exact fun O2 H2 k2 W2 => h O2 H2 (kp.trans k2) W2
  | rt d st => exact fun O2 H2 v k2 W2 r2 => h O2 H2 v (kp.trans k2) W2 r2
  | nx ρ st => exact fun O2 H2 v k2 W2 r2 => h O2 H2 v (kp.trans k2) W2 r2
  | bk ρ st => exact fun O2 H2 v k2 W2 r2 => h O2 H2 v (kp.trans k2) W2 r2
  | ct ρ st => exact fun O2 H2 v k2 W2 r2 => h O2 H2 v (kp.trans k2) W2 r2
/-- an expression's value handed on to a statement -/
noncomputable def Out.to {α : Type} (r : Out α) (k : α → Sto → OutS) : OutS := match r with
  | .ok a st => k a st
  | .exc c st => .exc c st
  | .bad => .bad
theorem RunS.to {K : PySem.W.Frag} {EX : EXT} {Dn : Ends} {α : Type} {O : List Addr} {H : Hp} {r : Out α} {g : α → Sto → OutS} (h : RunS K EX Dn O H (r.to g)) : Run K EX O H r (fun a st O' H' => RunS K EX Dn O' H' (g a st)) := by
  cases r with
  | ok a st => exact fun O' H' kp W => RunS.later (r := g a st) h kp
  | exc c st => exact h
  | bad => exact h
section
variable {X : Cx} {EX : EXT} {a b c e o tg : Expr} {fa fb fc fo : DE} {pos p apos : Pos} {ta tb : DT} {s : Stmt} {ss : List Stmt} {g g' : DS} {x : Str} {C : Addr}
noncomputable def sNext : DS := fun ρ st => .nx ρ st
noncomputable def sSeq (g g' : DS) : DS := fun ρ st => match g ρ st with
  | .nx ρ' st' => g' ρ' st'
  | r => r
theorem pds_nil : PDS X EX [] sNext := by
  refine PSs.mono pss_nil ?_
  rintro Dn σ H ⟨O, ρ, st, W, E, R⟩
  exact R O H σ Keep.refl W E
theorem pds_cons (h1 : PDs X EX s g) (h2 : PDS X EX ss g') : PDS X EX (s :: ss) (sSeq g g') := by
  refine PSs.mono (pss_cons h1 h2) ?_
  rintro Dn σ H ⟨O, ρ, st, W, E, R⟩
  refine ⟨O, ρ, st, W, E, ?_⟩
  unfold sSeq at R
  cases hg : g ρ st with
  | nx ρ' st' =>
    rw [hg] at R
    exact fun O' H' σ' kp W' E' => ⟨O', ρ', st', W', E', RunS.later R kp⟩
  | _ => rw [hg] at R; exact R
theorem pds_one (h1 : PDs X EX s g) : PDS X EX [s] g := pss_one h1
noncomputable def sBreak : DS := fun ρ st => .bk ρ st
noncomputable def sCont : DS := fun ρ st => .ct ρ st
noncomputable def sExpr (f : DE) : DS := fun ρ st => (f ρ st).to fun _ st1 => .nx ρ st1
theorem pd_expr (he : PD X EX e fa) (hs : swapsWith e none pos.line X.env = pure false := by rfl) : PDs X EX (.Expr e pos) (sExpr fa) := by
  refine PS.mono (ps_expr he hs) ?_
  rintro Dn σ H ⟨O, ρ, st, W, E, R⟩
  exact ⟨O, ρ, st, W, E, R.to.mono fun d st1 O1 H1 k1 W1 R1 v r => R1 O1 H1 σ Keep.refl W1 (E.mono k1)⟩
noncomputable def sRet (f : DE) : DS := fun ρ st => (f ρ st).to fun d st1 => .rt d st1
theorem pd_ret (he : PD X EX e fa) : PDs X EX (.Return (some e) pos) (sRet fa) := by
  refine PS.mono (ps_ret he) ?_
  rintro Dn σ H ⟨O, ρ, st, W, E, R⟩
  exact ⟨O, ρ, st, W, E, R.to.mono fun d st1 O1 H1 k1 W1 R1 v r => R1 O1 H1 v Keep.refl W1 r⟩
/-- a new list is handed back as a place of the store -/
noncomputable def sRetF (f : DA) : DS := fun ρ st => (f ρ st).to fun ds st1 => .rt (.res st1.length) (st1 ++ [.lst ds])
theorem pd_retF {f : DA} (he : PDF X EX e f) : PDs X EX (.Return (some e) pos) (sRetF f) := by
  refine PS.mono (ps_ret he) ?_
  rintro Dn σ H ⟨O, ρ, st, W, E, R⟩
  exact ⟨O, ρ, st, W, E, R.to.mono fun ds st1 O1 H1 k1 W1 R1 p vs r hp => R1 (O1 ++ [p]) _ _ (Keep.push hp) (W1.push hp r) (rep_last W1.len)⟩
noncomputable def sRetN : DS := fun _ st => .rt .non st
noncomputable def sIf (t : DT) (g g' : DS) : DS := fun ρ st => (t ρ st).to fun x st1 => if x = true then g ρ st1 else g' ρ st1
theorem pd_if {sa sb : List Stmt} (hc : PDT X EX c ta) (ha : PDS X EX sa g) (hb : PDS X EX sb g') : PDs X EX (.If c sa sb pos) (sIf ta g g') := by
  refine PS.mono (ps_if hc ha hb) ?_
  rintro Dn σ H ⟨O, ρ, st, W, E, R⟩
  refine ⟨O, ρ, st, W, E, R.to.mono fun x st1 O1 H1 k1 W1 R1 => ?_⟩
  cases x with
  | true => exact ⟨O1, ρ, st1, W1, E.mono k1, R1⟩
  | false => exact ⟨O1, ρ, st1, W1, E.mono k1, R1⟩
noncomputable def sSet (i : Nat) (f : DE) : DS := fun ρ st => (f ρ st).to fun d st1 => .nx (ρ.set i (some d)) st1
theorem pd_set (i : Nat) {pos' : Pos} (hN : X.N.Nodup) (hi : X.N[i]? = some x) (hx : Loc X.env.scope x) (he : PD X EX e fa) (hs : swapsWith e (some (.Name x pos')) pos.line X.env = pure false := by rfl)
    (hf : X.fn x = true ∨ X.env.scope.names.lookup x = some .local := by first | exact .inl rfl | exact .inr rfl | assumption) : PDs X EX (.Assign [.Name x pos'] e pos) (sSet i fa) := by
  refine PS.mono (ps_set hN hi hx he hs hf) ?_
  rintro Dn σ H ⟨O, ρ, st, W, E, R⟩
  exact ⟨O, ρ, st, W, E, R.to.mono fun d st1 O1 H1 k1 W1 R1 v r => R1 O1 H1 _ Keep.refl W1 ((E.mono k1).set r)⟩
/-- a new list becomes a place of the store -/
noncomputable def sSetF (i : Nat) (f : DA) : DS := fun ρ st => (f ρ st).to fun ds st1 => .nx (ρ.set i (some (.res st1.length))) (st1 ++ [.lst ds])
theorem pd_setF (i : Nat) {f : DA} {pos' : Pos} (hN : X.N.Nodup) (hi : X.N[i]? = some x) (hx : Loc X.env.scope x) (he : PDF X EX e f) (hs : swapsWith e (some (.Name x pos')) pos.line X.env = pure false := by rfl)
    (hf : X.fn x = true ∨ X.env.scope.names.lookup x = some .local := by first | exact .inl rfl | exact .inr rfl | assumption) : PDs X EX (.Assign [.Name x pos'] e pos) (sSetF i f) := by
  refine PS.mono (ps_set hN hi hx he hs hf) ?_
  rintro Dn σ H ⟨O, ρ, st, W, E, R⟩
  exact ⟨O, ρ, st, W, E, R.to.mono fun ds st1 O1 H1 k1 W1 R1 p vs r hp => R1 (O1 ++ [p]) _ _ (Keep.push hp) (W1.push hp r) ((E.mono (k1.trans (Keep.push hp))).set (rep_last W1.len))⟩
/-! attributes -/
noncomputable def sFldS (C : Addr) (x : Str) (fo fv : DE) : DS := fun ρ st => (fv ρ st).to fun v st1 => (fo ρ st1).to fun d st2 => match insAt C st2 d with
  | some (i, fs) => if fs.length < 900 then .nx ρ (st2.set i (.ins C (putFD x v fs))) else .bad
  | none => .bad
theorem pd_fldS {pos' : Pos} (ha : PD X EX o fo) (hv : PD X EX e fa) (c : Cls X.K C) (na : NoAttr X.K C x) (hs : swapsWith e (some (.Attribute o x pos')) pos.line X.env = pure false := by rfl) : PDs X EX (.Assign [.Attribute o x pos'] e pos) (sFldS C x fo fa) := by
  refine PS.mono (ps_fld ha hv hs) ?_
  rintro Dn σ H ⟨O, ρ, st, W, E, R⟩
  refine ⟨O, ρ, st, W, E, R.to.mono fun w st1 O1 H1 k1 W1 R1 v r => ?_⟩
  refine ⟨O1, ρ, st1, W1, E.mono k1, R1.to.mono fun d st2 O2 H2 k2 W2 R2 u r2 => ?_⟩
  cases e : insAt C st2 d with
  | none => rw [e] at R2; exact R2.elim
  | some q =>
    obtain ⟨i, fs⟩ := q
    rw [e] at R2
    dsimp only at R2
    obtain ⟨rfl, a, dx, vfs, rfl, ho, hH, hf⟩ := insAt_rd W2 r2 e
    by_cases hl : fs.length < 900
    · rw [if_pos hl] at R2
      refine ⟨a, C, dx, vfs, rfl, hH, c, na, by rw [← hf.length]; omega, ?_⟩
      have kw : Keep X.K O2 H2 O2 (upd H2 a (.ins C dx (putF x v vfs))) := Keep.write W2 ho
      exact R2 O2 _ σ kw (W2.write ho ⟨dx, _, upd_same, Flds.mono kw _ _ (hf.put (Rep.mono k2 _ _ r))⟩) (E.mono (k1.trans (k2.trans kw)))
    · rw [if_neg hl] at R2; exact R2.elim
noncomputable def sFldF (C : Addr) (x : Str) (fo : DE) (fv : DA) : DS := fun ρ st => (fv ρ st).to fun vs st1 => (fo ρ (st1 ++ [.lst vs])).to fun d st2 => match insAt C st2 d with
  | some (i, fs) => if fs.length < 900 then .nx ρ (st2.set i (.ins C (putFD x (.res st1.length) fs))) else .bad
  | none => .bad
theorem pd_fldF {f : DA} {pos' : Pos} (ha : PD X EX o fo) (hv : PDF X EX e f) (c : Cls X.K C) (na : NoAttr X.K C x) (hs : swapsWith e (some (.Attribute o x pos')) pos.line X.env = pure false := by rfl) : PDs X EX (.Assign [.Attribute o x pos'] e pos) (sFldF C x fo f) := by
  refine PS.mono (ps_fld ha hv hs) ?_
  rintro Dn σ H ⟨O, ρ, st, W, E, R⟩
  refine ⟨O, ρ, st, W, E, R.to.mono fun w st1 O1 H1 k1 W1 R1 p vs r hp => ?_⟩
  refine ⟨O1 ++ [p], ρ, st1 ++ [.lst w], W1.push hp r, E.mono (k1.trans (Keep.push hp)), (RunS.later R1 (Keep.push hp)).to.mono fun d st2 O2 H2 k2 W2 R2 u r2 => ?_⟩
  cases e : insAt C st2 d with
  | none => rw [e] at R2; exact R2.elim
  | some q =>
    obtain ⟨i, fs⟩ := q
    rw [e] at R2
    dsimp only at R2
    obtain ⟨rfl, a, dx, vfs, rfl, ho, hH, hf⟩ := insAt_rd W2 r2 e
    by_cases hl : fs.length < 900
    · rw [if_pos hl] at R2
      refine ⟨a, C, dx, vfs, rfl, hH, c, na, by rw [← hf.length]; omega, ?_⟩
      have kw : Keep X.K O2 H2 O2 (upd H2 a (.ins C dx (putF x (.ref p) vfs))) := Keep.write W2 ho
      exact R2 O2 _ σ kw (W2.write ho ⟨dx, _, upd_same, Flds.mono kw _ _ (hf.put (Rep.mono k2 _ _ (rep_last W1.len)))⟩) (E.mono (k1.trans ((Keep.push hp).trans (k2.trans kw))))
    · rw [if_neg hl] at R2; exact R2.elim
/-- o.x += e (ints) -/
noncomputable def sFldAdd (C : Addr) (x : Str) (fo fv : DE) : DS := fun ρ st => (fo ρ st).to fun d st1 => match insAt C st1 d with
  | some (i, fs) => match fs.lookup x with
    | some (.int z) => (fv ρ st1).to fun v st2 => match v with
      | .int y => match insAt C st2 d with
        | some (j, fs') => if fs'.length < 900 then .nx ρ (st2.set j (.ins C (putFD x (.int (z + y)) fs'))) else .bad
        | none => .bad
      | _ => .bad
    | _ => .bad
  | none => .bad
theorem pd_fldAdd {tpos : Pos} (ha : PD X EX o fo) (hv : PD X EX e fa) (c : Cls X.K C) (na : NoAttr X.K C x) : PDs X EX (.AugAssign (.Attribute o x tpos) .Add e pos) (sFldAdd C x fo fa) := by
  refine PS.mono (ps_fldaug ha hv in_add) ?_
  rintro Dn σ H ⟨O, ρ, st, W, E, R⟩
  refine ⟨O, ρ, st, W, E, R.to.mono fun d st1 O1 H1 k1 W1 R1 u r => ?_⟩
  cases e : insAt C st1 d with
  | none => rw [e] at R1; exact R1.elim
  | some q =>
    obtain ⟨i, fs⟩ := q
    rw [e] at R1
    dsimp only at R1
    obtain ⟨rfl, a, dx, vfs, rfl, ho, hH, hf⟩ := insAt_rd W1 r e
    cases hl : fs.lookup x with
    | none => rw [hl] at R1; exact R1.elim
    | some w =>
      rw [hl] at R1
      cases w with
      | int z =>
        dsimp only at R1
        obtain ⟨v, h1, h2⟩ := hf.look.2 _ hl
        rw [Rep.int_i] at h2
        subst h2
        refine ⟨a, C, dx, vfs, _, rfl, hH, c, na, h1, O1, ρ, st1, W1, E.mono k1, R1.to.mono fun y st2 O2 H2 k2 W2 R2 vy ry => ?_⟩
        cases y with
        | int y =>
          rw [Rep.int_i] at ry
          subst ry
          refine ⟨z, y, rfl, rfl, ?_⟩
          dsimp only at R2
          cases e2 : insAt C st2 (.res i) with
          | none => rw [e2] at R2; exact R2.elim
          | some q =>
            obtain ⟨j, fs'⟩ := q
            rw [e2] at R2
            dsimp only at R2
            obtain ⟨ej, a', dx', vfs', ea, ho', hH', hf'⟩ := insAt_rd W2 (Rep.mono k2 _ _ r) e2
            cases ej
            cases ea
            by_cases hl2 : fs'.length < 900
            · rw [if_pos hl2] at R2
              refine ⟨dx', vfs', hH', by rw [← hf'.length]; omega, ?_⟩
              have kw : Keep X.K O2 H2 O2 (upd H2 a (.ins C dx' (putF x (.int (z + y)) vfs'))) := Keep.write W2 ho'
              exact R2 O2 _ σ kw (W2.write ho' ⟨dx', _, upd_same, Flds.mono kw _ _ (hf'.put (Rep.int_i.mpr rfl))⟩) (E.mono (k1.trans (k2.trans kw)))
            · rw [if_neg hl2] at R2; exact R2.elim
        | _ => exact R2.elim
      | _ => exact R1.elim
/-- x += e (ints) -/
noncomputable def sAdd (i : Nat) (f : DE) : DS := fun ρ st => match ρ[i]? with
  | some (some (.int z)) => (f ρ st).to fun v st1 => match v with
    | .int y => .nx (ρ.set i (some (.int (z + y)))) st1
    | _ => .bad
  | _ => .bad
theorem pd_add (i : Nat) {pos' : Pos} (hN : X.N.Nodup) (hi : X.N[i]? = some x) (hx : Loc X.env.scope x) (he : PD X EX e fa)
    (hf : X.fn x = true ∨ X.env.scope.names.lookup x = some .local := by first | exact .inl rfl | exact .inr rfl | assumption) : PDs X EX (.AugAssign (.Name x pos') .Add e pos) (sAdd i fa) := by
  refine PS.mono (ps_aug hN hi hx he ip_add hf) ?_
  rintro Dn σ H ⟨O, ρ, st, W, E, R⟩
  unfold sAdd at R
  split at R
  · rename_i z hz
    obtain ⟨v, h1, r⟩ := E.at_ i _ hz
    rw [Rep.int_i] at r
    subst r
    refine ⟨_, h1, O, ρ, st, W, E, R.to.mono fun y st1 O1 H1 k1 W1 R1 vy ry => ?_⟩
    cases y with
    | int y =>
      rw [Rep.int_i] at ry
      subst ry
      exact ⟨z, y, rfl, rfl, R1 O1 H1 _ Keep.refl W1 ((E.mono k1).set (Rep.int_i.mpr rfl))⟩
    | _ => exact R1.elim
  · exact R.elim
/-! ### a def by its body -/
noncomputable def runF (N n : Nat) (g : DS) : FD := fun ds st => if ds.length = n then (match g (ds.map some ++ List.replicate (N - n) none) st with
  | .nx _ st' => .ok .non st'
  | .rt d st' => .ok d st'
  | _ => .bad) else .bad
end
section
variable {P : Program} {w : World} {K : PySem.W.Frag} {mg : Str → Option Value} {base : Heap}
theorem renv_start {O : List Addr} {H : Hp} {N : List Str} : ∀ {ds : List D} {vs : List V} (m : Nat), Reps K O H ds vs → REnv K O H (ds.map some ++ List.replicate m none) (vs.map some ++ List.replicate m none) := by
  intro ds vs m r
  refine ⟨by simp [r.length], fun i d h => ?_⟩
  by_cases hi : i < ds.length
  · rw [List.getElem?_append_left (by simpa using hi)] at h
    rw [List.getElem?_map] at h
    cases e : ds[i]? with
    | none => rw [e] at h; cases h
    | some d' =>
      rw [e] at h
      simp only [Option.map_some, Option.some.injEq] at h
      subst h
      obtain ⟨v, h1, h2⟩ := r.get e
      exact ⟨v, by rw [List.getElem?_append_left (by rw [List.length_map, ← r.length]; exact hi), List.getElem?_map, h1]; rfl, h2⟩
  · rw [List.getElem?_append_right (by rw [List.length_map]; omega), List.getElem?_replicate] at h
    split at h <;> cases h
/-- a def that raises nothing -/
theorem fnD {x qual : Str} {st : Stmt} {f : Addr} {fd : FuncData} {N ps : List Str} {k : Nat} {g : DS} (F : Fun K x qual st f fd) (S : FnScope N ps (defScope st))
    (hbody : ∀ (cdv : Value) (A : Around) (outer : List Env) (s : Shared) (H : Hp) (E : XK), Room k (A.deeper (envOfC qual (defScope st) s.heap.objs.size f cdv)) →
      PDS (cxOf CX0 P w K mg base N qual (defScope st) f cdv A outer s H E).nox EX0 (defBody st) g) : FnOk P w K mg base CX0 (k + 1) f fd ps (spD K (runF N.length ps.length g)) := by
  have hlen : ∀ vs H Q E, spD K (runF N.length ps.length g) vs H Q E → vs.length = ps.length := by
    rintro vs H Q E ⟨O, ds, st, W, r, R⟩
    unfold runF at R
    by_cases hl : ds.length = ps.length
    · rw [← r.length]; exact hl
    · rw [if_neg hl] at R; exact R.elim
  refine F.ok S hlen fun cdv A outer s H vs Q E hr h => ?_
  refine ⟨_, hbody cdv A outer s H E hr, ?_⟩
  have hl := hlen vs H Q E h
  obtain ⟨O, ds, st, W, r, R⟩ := h
  have hd : ds.length = ps.length := by rw [r.length]; exact hl
  unfold runF at R
  rw [if_pos hd] at R
  refine ⟨O, ds.map some ++ List.replicate (N.length - ps.length) none, st, W, ?_, ?_⟩
  · unfold L2.start
    rw [hl]
    exact renv_start (N := N) _ r
  · cases hg : g (ds.map some ++ List.replicate (N.length - ps.length) none) st with
    | nx ρ st' => rw [hg] at R; exact fun O' H' σ kp W' _ => R O' H' kp W' _ (Rep.non_i.mpr rfl)
    | rt d st' => rw [hg] at R; exact fun O' H' v kp W' rv => R O' H' kp W' v rv
    | exc c st' => rw [hg] at R; exact R.elim
    | bad => rw [hg] at R; exact R
    | bk ρ st' => rw [hg] at R; exact R.elim
    | ct ρ st' => rw [hg] at R; exact R.elim
end
end DL

end
/-! DL7 -/
section
set_option Elab.async false
set_option linter.all false
set_option maxRecDepth 100000
/-! DL part 7: targets, loops -/
namespace DL
open PySem PySem.Spec PyProof.Rows L2
/-! ### targets -/
noncomputable abbrev TgD := D → Ev → Option Ev
noncomputable def tgD (K : PySem.W.Frag) (t : TgD) : TG := fun v σ H Q => ∃ O d ρ ρ', Rep K O H d v ∧ REnv K O H ρ σ ∧ t d ρ = some ρ' ∧ ∀ σ', REnv K O H ρ' σ' → Q σ' H
noncomputable def PGD (X : Cx) (tg : Expr) (t : TgD) : Prop := PG X tg (tgD X.K t)
theorem PG.mono {X : Cx} {tg : Expr} {t t' : TG} (h : PG X tg t) (f : ∀ v σ H Q, t' v σ H Q → t v σ H Q) : PG X tg t' := fun pins s σ H v u Q I r q => h pins s σ H v u Q I r (f v σ H Q q)
theorem PGs.mono {X : Cx} {tg : List Expr} {t t' : TGs} (h : PGs X tg t) (f : ∀ v σ H Q, t' v σ H Q → t v σ H Q) : PGs X tg t' := fun pins s σ H v u Q I r q => h pins s σ H v u Q I r (f v σ H Q q)
noncomputable def tgName (i : Nat) : TgD := fun d ρ => some (ρ.set i (some d))
noncomputable def setAll : List Nat → List D → Ev → Ev
  | i :: is, d :: ds, ρ => setAll is ds (ρ.set i (some d))
  | _, _, ρ => ρ
noncomputable def tgsD (K : PySem.W.Frag) (is : List Nat) : TGs := fun vs σ H Q => ∃ O ds ρ, Reps K O H ds vs ∧ REnv K O H ρ σ ∧ ds.length = is.length ∧ ∀ σ', REnv K O H (setAll is ds ρ) σ' → Q σ' H
noncomputable def tgTup (is : List Nat) : TgD
  | .tup ds, ρ => if ds.length = is.length then some (setAll is ds ρ) else none
  | _, _ => none
section
variable {X : Cx} {EX : EXT} {pos : Pos} {x : Str}
theorem pgd_name (i : Nat) (hN : X.N.Nodup) (hi : X.N[i]? = some x) (hx : Loc X.env.scope x) (hf : X.fn x = true ∨ X.env.scope.names.lookup x = some .local := by first | exact .inl rfl | exact .inr rfl | assumption) : PGD X (.Name x pos) (tgName i) := by
  refine PG.mono (pg_name hN hi hx hf) ?_
  rintro v σ H Q ⟨O, d, ρ, ρ', r, E, ht, q⟩
  cases ht
  exact q _ (E.set r)
theorem pgsd_nil : PGs X [] (tgsD X.K []) := by
  refine PGs.mono pgs_nil ?_
  rintro vs σ H Q ⟨O, ds, ρ, r, E, hl, q⟩
  have e : ds = [] := List.length_eq_zero_iff.mp hl
  subst e
  rw [Reps.nil_i] at r
  exact ⟨r, q _ E⟩
theorem pgsd_cons (i : Nat) {is : List Nat} {es : List Expr} (hN : X.N.Nodup) (hi : X.N[i]? = some x) (hx : Loc X.env.scope x) (h2 : PGs X es (tgsD X.K is)) (hf : X.fn x = true ∨ X.env.scope.names.lookup x = some .local := by first | exact .inl rfl | exact .inr rfl | assumption)
    (hs : (assignEach (.Name x pos :: es) X.env).map (·.2) = assign (.Name x pos) X.env :: (assignEach es X.env).map (·.2) := by rfl) : PGs X (.Name x pos :: es) (tgsD X.K (i :: is)) := by
  refine PGs.mono (pgs_cons (pg_name hN hi hx hf) h2 hs) ?_
  rintro vs σ H Q ⟨O, ds, ρ, r, E, hl, q⟩
  cases ds with
  | nil => cases hl
  | cons d ds =>
    obtain ⟨v, vs', rfl, q1, t⟩ := Reps.cons_i.mp r
    exact ⟨v, vs', rfl, O, ds, _, t, E.set q1, by simpa using hl, q⟩
theorem pgd_tup {is : List Nat} {es : List Expr} {k : Nat} (hc : X.calm = true) (h : PGs X es (tgsD X.K is)) (hn : (assignEach es X.env).length = is.length := by rfl) (hst : (assignEach es X.env).findIdx? (·.1) = none := by rfl) : PGD X (.Tuple es k pos) (tgTup is) := by
  refine PG.mono (pg_tup hc h hn hst) ?_
  rintro v σ H Q ⟨O, d, ρ, ρ', r, E, ht, q⟩
  cases d with
  | tup ds =>
    dsimp only [tgTup] at ht
    by_cases hl : ds.length = is.length
    · rw [if_pos hl] at ht
      cases ht
      rw [Rep.tup_i] at r
      obtain ⟨a, vs, rfl, hq, rs⟩ := r
      exact ⟨a, vs, rfl, SqT.of hq, by rw [← rs.length]; exact hl, O, ds, ρ, rs, E, hl, q⟩
    · rw [if_neg hl] at ht; cases ht
  | _ => cases ht
/-- target = value -/
noncomputable def sAsg (t : TgD) (f : DE) : DS := fun ρ st => (f ρ st).to fun d st1 => match t d ρ with
  | some ρ' => .nx ρ' st1
  | none => .bad
end
/-! ### what is walked -/
noncomputable abbrev Wk := List D × (Sto → Prop)
noncomputable def ItD (K : PySem.W.Frag) (J : It) (O0 : List Addr) (H0 : Hp) (q : Wk) : Prop :=
  ∀ (i : Nat) (O : List Addr) (H : Hp) (st : Sto), Keep K O0 H0 O H → WR K O H st → q.2 st →
    (∀ d, q.1[i]? = some d → J.go i H ∧ ∀ x H', J.yld i H x H' → Keep K O H O H' ∧ WR K O H' st ∧ Rep K O H' d x) ∧ (q.1.length ≤ i → J.stop i H)
noncomputable abbrev DI := Ev → Sto → Out Wk
noncomputable def wiD (K : PySem.W.Frag) (EX : EXT) (f : DI) : TI := fun σ H R => ∃ O ρ st, WR K O H st ∧ REnv K O H ρ σ ∧ Run K EX O H (f ρ st) (fun q _ O' H' => ∀ J, ItD K J O' H' q → R J H')
noncomputable def PID (X : Cx) (EX : EXT) (tg iter : Expr) (f : DI) : Prop := PI X tg iter (wiD X.K EX f)
theorem PI.mono {X : Cx} {tg it : Expr} {t t' : TI} (h : PI X tg it t) (f : ∀ σ H Q, t' σ H Q → t σ H Q) : PI X tg it t' := fun pins s σ H Q I q => h pins s σ H Q I (f σ H Q q)
theorem PI.or {X : Cx} {tg it : Expr} {t t' : TI} (h : PI X tg it t) (h' : PI X tg it t') : PI X tg it (fun σ H R => t σ H R ∨ t' σ H R) := fun pins s σ H Q I q => by
  rcases q with q | q
  · exact h pins s σ H Q I q
  · exact h' pins s σ H Q I q
section
variable {K : PySem.W.Frag} {O : List Addr} {H : Hp} {st : Sto}
theorem it_tup {a : Addr} {vs : List V} {xs : List D} {P : Sto → Prop} (q : H a = some (.tup vs)) (r : Reps K O H xs vs) : ItD K (Itt K a) O H (xs, P) := by
  intro i O' H' st' kp W' _
  refine ⟨fun d hd => ?_, fun hl => ⟨vs, SqT.of (kp.tup _ _ q), by rw [← r.length]; exact hl⟩⟩
  obtain ⟨v, h1, h2⟩ := r.get hd
  refine ⟨⟨vs, v, SqT.of (kp.tup _ _ q), h1⟩, ?_⟩
  rintro x H2 ⟨rfl, h3⟩
  have h4 := h3 vs (SqT.of (kp.tup _ _ q))
  rw [h1] at h4
  cases h4
  exact ⟨Keep.refl, W', Rep.mono kp _ _ h2⟩
theorem it_list {a : Addr} {xs : List D} {P : Sto → Prop} (h : ∀ (O' : List Addr) (H' : Hp) (st' : Sto), Keep K O H O' H' → WR K O' H' st' → P st' → ∃ vs, SqL K H' a vs ∧ Reps K O' H' xs vs) : ItD K (Itl K a) O H (xs, P) := by
  intro i O' H' st' kp W' hp
  obtain ⟨vs, q, r⟩ := h O' H' st' kp W' hp
  refine ⟨fun d hd => ?_, fun hl => ⟨vs, q, by rw [← r.length]; exact hl⟩⟩
  obtain ⟨v, h1, h2⟩ := r.get hd
  refine ⟨⟨vs, v, q, h1⟩, ?_⟩
  rintro x H2 ⟨rfl, h3⟩
  have h4 := h3 vs q
  rw [h1] at h4
  cases h4
  exact ⟨Keep.refl, W', h2⟩
theorem it_range {lo : Int} {n : Nat} {P : Sto → Prop} : ItD K (Itr lo n) O H ((List.range n).map (fun (i : Nat) => D.int (lo + i)), P) := by
  intro i O' H' st' kp W' hp
  refine ⟨fun d hd => ?_, fun hl => (show n ≤ i by simpa using hl)⟩
  have hi : i < n := by
    have := (List.getElem?_eq_some_iff.mp hd).1
    simpa using this
  have e : d = D.int (lo + i) := by
    rw [List.getElem?_map, List.getElem?_range hi] at hd
    simpa using hd.symm
  subst e
  refine ⟨hi, ?_⟩
  rintro x H2 ⟨rfl, rfl⟩
  exact ⟨Keep.refl, W', Rep.int_i.mpr rfl⟩
end
section
variable {X : Cx} {EX : EXT} {tg e a b : Expr} {f : DE} {g : DA} {pos p : Pos}
/-- a list or a tuple -/
noncomputable def dSeq (f : DE) : DI := fun ρ st => (f ρ st).bind fun d st1 => match itemsOf st1 d with
  | some xs => .ok (xs, fun st => itemsOf st d = some xs) st1
  | none => .bad
theorem pid_seq (h : PD X EX e f) : PID X EX tg e (dSeq f) := by
  refine PI.mono (PI.or (pi_tup h) (pi_list h)) ?_
  rintro σ H R ⟨O, ρ, st, W, E, R0⟩
  have R1 := R0.bind
  cases hf : f ρ st with
  | bad => rw [hf] at R1; exact R1.elim
  | exc c st' =>
    rw [hf] at R1
    exact .inl ⟨O, ρ, st, W, E, by rw [hf]; exact R1⟩
  | ok d st' =>
    rw [hf] at R1
    by_cases hb : ∃ zs, d = .tup zs
    · obtain ⟨zs, rfl⟩ := hb
      refine .inl ⟨O, ρ, st, W, E, ?_⟩
      rw [hf]
      intro O1 H1 k1 W1 v r
      have R2 := R1 O1 H1 k1 W1
      rw [Rep.tup_i] at r
      obtain ⟨q, vs, rfl, hq, rs⟩ := r
      exact ⟨q, rfl, ⟨vs, SqT.of hq⟩, Run.now (k := fun q _ O' H' => ∀ J, ItD X.K J O' H' q → R J H') R2 W1 _ (it_tup hq rs)⟩
    · refine .inr ⟨O, ρ, st, W, E, ?_⟩
      rw [hf]
      intro O1 H1 k1 W1 v r
      have R2 := R1 O1 H1 k1 W1
      have ei : ∀ s', itemsOf s' d = seqL s' d := by
        intro s'
        cases d <;> first | rfl | exact absurd ⟨_, rfl⟩ hb
      dsimp only at R2
      rw [ei] at R2
      cases e1 : seqL st' d with
      | none => rw [e1] at R2; exact R2.elim
      | some xs =>
        rw [e1] at R2
        obtain ⟨q, vs, rfl, hq, rs⟩ := rdL W1 r e1
        refine ⟨q, rfl, ⟨vs, hq⟩, Run.now (k := fun q _ O' H' => ∀ J, ItD X.K J O' H' q → R J H') R2 W1 _ (it_list fun O' H' st2 kp W' hp => ?_)⟩
        rw [ei] at hp
        obtain ⟨q', vs', e2, hq', rs'⟩ := rdL W' (Rep.mono kp _ _ r) hp
        cases e2
        exact ⟨vs', hq', rs'⟩
noncomputable def rngOk (j : Int) : Bool := @decide (-(2 ^ 62) ≤ j ∧ j < 2 ^ 62) (Classical.propDecidable _)
theorem rngOk_iff {j : Int} : rngOk j = true ↔ (-(2 ^ 62) ≤ j ∧ j < 2 ^ 62) := by
  unfold rngOk
  exact @decide_eq_true_iff _ (Classical.propDecidable _)
theorem rngOk_of {j : Int} (h1 : -1000000 ≤ j) (h2 : j ≤ 1000000) : rngOk j = true := rngOk_iff.mpr ⟨by omega, by omega⟩
noncomputable def dRng1 (g : DA) : DI := fun ρ st => (g ρ st).bind fun ds st1 => match ds with
  | [.int j] => if rngOk j = true then .ok ((List.range j.toNat).map (fun (i : Nat) => D.int (0 + i)), fun _ => True) st1 else .bad
  | _ => .bad
noncomputable def dRng2 (g : DA) : DI := fun ρ st => (g ρ st).bind fun ds st1 => match ds with
  | [.int i, .int j] => if rngOk i = true ∧ rngOk j = true then .ok ((List.range (j - i).toNat).map (fun (n : Nat) => D.int (i + n)), fun _ => True) st1 else .bad
  | _ => .bad
theorem pid_range1 (hg : Gl X "range") (hm : X.mg "range" = none) (ha : PDA X EX [a] g) (hs : starEach [a] X.env = [(false, eval a X.env)] := by rfl) : PID X EX tg (.Call (.Name "range" p) [a] [] pos) (dRng1 g) := by
  refine PI.mono (pi_range1 hg hm ha hs) ?_
  rintro σ H R ⟨O, ρ, st, W, E, R0⟩
  refine ⟨O, ρ, st, W, E, R0.bind.mono fun ds st1 O1 H1 k1 W1 R1 vs r => ?_⟩
  split at R1
  · rename_i j
    obtain ⟨v, rfl, rv⟩ := r.one_of
    rw [Rep.int_i] at rv
    subst rv
    by_cases hj : rngOk j = true
    · rw [if_pos hj] at R1
      exact ⟨j, rfl, (rngOk_iff.mp hj).1, (rngOk_iff.mp hj).2, Run.now (k := fun q _ O' H' => ∀ J, ItD X.K J O' H' q → R J H') R1 W1 _ it_range⟩
    · rw [if_neg hj] at R1; exact R1.elim
  · exact R1.elim
end
/-! ### for -/
open Classical in
noncomputable def loopD (chk : Sto → Prop) (t : TgD) (g : DS) : List D → DS
  | [], ρ, st => if chk st then .nx ρ st else .bad
  | x :: xs, ρ, st => if chk st then (match t x ρ with
    | none => .bad
    | some ρ1 => match g ρ1 st with
      | .nx ρ' st' => loopD chk t g xs ρ' st'
      | .ct ρ' st' => loopD chk t g xs ρ' st'
      | .bk ρ' st' => .nx ρ' st'
      | r => r) else .bad
noncomputable def sFor (f : DI) (t : TgD) (g : DS) : DS := fun ρ st => (f ρ st).to fun q st1 => loopD q.2 t g q.1 ρ st1
section
variable {X : Cx} {EX : EXT} {tg it : Expr} {f : DI} {t : TgD} {g : DS} {pos : Pos} {body : List Stmt}
theorem pd_for (hp : PassesOwn (model X.prog X.w) X.A X.env X.xe) (hc : X.calm = true) (hi : PID X EX tg it f) (hg : PGD X tg t) (hb : PDS X EX body g) (hs : ∀ x, foldedSetIterable it X.env x = pure x := by intro _; rfl) : PDs X EX (.For tg it body [] pos) (sFor f t g) := by
  refine PS.mono (ps_for hp hc hi hg hb hs) ?_
  rintro Dn σ H ⟨O, ρ, st, W, E, R⟩
  refine ⟨O, ρ, st, W, E, R.to.mono fun q st1 O1 H1 k1 W1 R1 J hJ => ?_⟩
  refine ⟨fun i m σ' H' => m + i = q.1.length ∧ ∃ O' ρ' st', Keep X.K O1 H1 O' H' ∧ WR X.K O' H' st' ∧ REnv X.K O' H' ρ' σ' ∧ RunS X.K EX Dn O' H' (loopD q.2 t g (q.1.drop i) ρ' st'), ⟨q.1.length, rfl, O1, ρ, st1, Keep.refl, W1, E.mono k1, R1⟩, ?_⟩
  rintro i m σ' H' ⟨hm, O', ρ', st', kp, W', E', R'⟩
  cases hd : q.1.drop i with
  | nil =>
    rw [hd] at R'
    unfold loopD at R'
    have hl : q.1.length ≤ i := List.drop_eq_nil_iff.mp hd
    by_cases hch : q.2 st'
    · rw [if_pos hch] at R'
      exact .inl ⟨(hJ i O' H' st' kp W' hch).2 hl, R' O' H' σ' Keep.refl W' E'⟩
    · rw [if_neg hch] at R'; exact R'.elim
  | cons x xs =>
    rw [hd] at R'
    unfold loopD at R'
    have hx : q.1[i]? = some x := by
      have := List.getElem?_drop (xs := q.1) (i := i) (j := 0)
      rw [hd] at this
      simpa using this.symm
    have hxs : q.1.drop (i + 1) = xs := by
      have := List.drop_drop (i := 1) (j := i) (l := q.1)
      rw [hd] at this
      simpa using this.symm
    have hi : i < q.1.length := (List.getElem?_eq_some_iff.mp hx).1
    by_cases hch : q.2 st'
    · rw [if_pos hch] at R'
      obtain ⟨hgo, hy⟩ := (hJ i O' H' st' kp W' hch).1 x hx
      refine .inr ⟨hgo, fun σ2 H2 => (m - 1) + (i + 1) = q.1.length ∧ ∃ O' ρ' st', True ∧ WR X.K O' H2 st' ∧ Keep X.K O1 H1 O' H2 ∧ REnv X.K O' H2 ρ' σ2 ∧ RunS X.K EX Dn O' H2 (loopD q.2 t g (q.1.drop (i + 1)) ρ' st'), ?_, ?_⟩
      · rintro σ2 H2 ⟨h1, O2, ρ2, st2, _, W2, kp2, E2, R2⟩
        exact ⟨m - 1, by omega, h1, O2, ρ2, st2, kp2, W2, E2, R2⟩
      · intro v H2 hv
        obtain ⟨ky, Wy, ry⟩ := hy v H2 hv
        cases ht : t x ρ' with
        | none => rw [ht] at R'; exact R'.elim
        | some ρ1 =>
          rw [ht] at R'
          dsimp only at R'
          refine ⟨O', x, ρ', ρ1, ry, E'.mono ky, ht, fun σ2 E2 => ⟨O', ρ1, st', Wy, E2, ?_⟩⟩
          cases hgr : g ρ1 st' with
          | nx ρ2 st2 =>
            rw [hgr] at R'
            intro O3 H3 σ3 k3 W3 E3
            exact ⟨by omega, O3, ρ2, st2, trivial, W3, kp.trans (ky.trans k3), E3, by rw [hxs]; exact RunS.later R' (ky.trans k3)⟩
          | ct ρ2 st2 =>
            rw [hgr] at R'
            intro O3 H3 σ3 k3 W3 E3
            exact ⟨by omega, O3, ρ2, st2, trivial, W3, kp.trans (ky.trans k3), E3, by rw [hxs]; exact RunS.later R' (ky.trans k3)⟩
          | bk ρ2 st2 =>
            rw [hgr] at R'
            exact fun O3 H3 σ3 k3 W3 E3 => R' O3 H3 σ3 (ky.trans k3) W3 E3
          | rt d st2 =>
            rw [hgr] at R'
            exact fun O3 H3 σ3 k3 W3 E3 => R' O3 H3 σ3 (ky.trans k3) W3 E3
          | exc c st2 =>
            rw [hgr] at R'
            exact fun O3 H3 k3 W3 => R' O3 H3 (ky.trans k3) W3
          | bad => rw [hgr] at R'; exact R'
    · rw [if_neg hch] at R'; exact R'.elim
end
/-! ### while: n turns at most -/
noncomputable def whileD (n : Nat) (t : DT) (g : DS) : DS := match n with
  | 0 => fun _ _ => .bad
  | n + 1 => fun ρ st => (t ρ st).to fun b st1 => if b = true then (match g ρ st1 with
    | .nx ρ' st' => whileD n t g ρ' st'
    | .ct ρ' st' => whileD n t g ρ' st'
    | .bk ρ' st' => .nx ρ' st'
    | r => r) else .nx ρ st1
section
variable {X : Cx} {EX : EXT} {c : Expr} {t : DT} {g : DS} {pos : Pos} {body : List Stmt}
theorem pd_while (n : Nat) (hp : PassesOwn (model X.prog X.w) X.A X.env X.xe) (hc : PDT X EX c t) (hb : PDS X EX body g) : PDs X EX (.While c body [] pos) (whileD n t g) := by
  refine PS.mono (ps_while hp hc hb) ?_
  rintro Dn σ H ⟨O, ρ, st, W, E, R⟩
  refine ⟨fun m σ' H' => ∃ O' ρ' st', WR X.K O' H' st' ∧ REnv X.K O' H' ρ' σ' ∧ RunS X.K EX Dn O' H' (whileD m t g ρ' st'), ⟨n, O, ρ, st, W, E, R⟩, ?_⟩
  rintro m σ' H' ⟨O', ρ', st', W', E', R'⟩
  cases m with
  | zero => exact R'.elim
  | succ m =>
    unfold whileD at R'
    refine ⟨O', ρ', st', W', E', R'.to.mono fun b st1 O1 H1 k1 W1 R1 => ?_⟩
    cases b with
    | false => exact R1 O1 H1 σ' Keep.refl W1 (E'.mono k1)
    | true =>
      refine ⟨fun σ2 H2 => ∃ O' ρ' st', WR X.K O' H2 st' ∧ REnv X.K O' H2 ρ' σ2 ∧ RunS X.K EX Dn O' H2 (whileD m t g ρ' st'), fun σ2 H2 h => ⟨m, Nat.lt_succ_self m, h⟩, O1, ρ', st1, W1, E'.mono k1, ?_⟩
      rw [if_pos rfl] at R1
      cases hgr : g ρ' st1 with
      | nx ρ2 st2 =>
        rw [hgr] at R1
        exact fun O3 H3 σ3 k3 W3 E3 => ⟨O3, ρ2, st2, W3, E3, RunS.later R1 k3⟩
      | ct ρ2 st2 =>
        rw [hgr] at R1
        exact fun O3 H3 σ3 k3 W3 E3 => ⟨O3, ρ2, st2, W3, E3, RunS.later R1 k3⟩
      | bk ρ2 st2 => rw [hgr] at R1; exact R1
      | rt d st2 => rw [hgr] at R1; exact R1
      | exc c st2 => rw [hgr] at R1; exact R1
      | bad => rw [hgr] at R1; exact R1
end
end DL

end
/-! DL8 -/
section
set_option Elab.async false
set_option linter.all false
set_option maxRecDepth 100000
/-! DL part 8: list comprehensions -/
namespace DL
open PySem PySem.Spec PyProof.Rows L2
/-! ### the loop itself -/
section
variable {prog : Program} {w : World} {A : Around} {E : Value → Shared → Prop} {R : Result → Shared → Prop} {s : Shared}
theorem compLoop_gen {elt target iter : Expr} {ifs : List Expr} {scope : Scope} {pos : Pos} {it acc : Value} {env : Env} (I : Nat → Shared → Prop)
    (turn : ∀ n s, I n s → wpAny (model prog w) A (pyNext it) (fun r s₁ => match r with
      | none => R (.ok .next) s₁
      | some v => wpAny (model prog w) A (letOwnedTupleGo target it v) (fun _ s₁' => wpAny (model prog w) A (assign target env v) (fun _ s₂ =>
          wpAny (model prog w) A (forIn ifs true fun c r => if r = true then do let ok ← isTrue c env (eval c env); pure (ForInStep.yield ok) else pure (ForInStep.yield r)) (fun ok s₃ =>
            if ok = true then wpAny (model prog w) A (eval elt env) (fun x s₄ =>
              wpAny (model prog w) A (call (.builtin "list.append") [acc, x]) (fun _ s₅ => ∃ m, m < n ∧ I m s₅) (fun _ _ => False) s₄) (fun _ _ => False) s₃
            else ∃ m, m < n ∧ I m s₃) (fun _ _ => False) s₂) (fun _ _ => False) s₁') (fun _ _ => False) s₁) (fun _ _ => False) s)
    (n : Nat) (h : I n s) :
    codeAny (model prog w) A (.compLoop (.ListComp elt [⟨target, iter, ifs, 0⟩] scope pos) 0 it acc env) R s := by
  refine codeAny_loop rfl I (fun n s hI => ?_) n h
  show wpAny _ A ((compTurn (.ListComp elt [⟨target, iter, ifs, 0⟩] scope pos) 0 it acc env).onRaise (fun x => do noteFrame x env; theTreesLotGoes x)) _ _ s
  refine wpAny_noted ?_
  rw [compTurn_list]
  refine wpAny_bind (wpAny_standAt (wpAny_bind (wpAny_mono (turn n s hI) (fun r s₁ h₁ => ?_) fun _ _ h' => h'.elim)))
  cases r with
  | none => exact wpAny_pure h₁
  | some v =>
    refine wpAny_bind (wpAny_mono h₁ (fun _ s₁' h₁' => ?_) fun _ _ h' => h'.elim)
    refine wpAny_bind (wpAny_mono h₁' (fun _ s₂ h₂ => wpAny_bind (wpAny_mono h₂ (fun ok s₃ h₃ => ?_) fun _ _ h' => h'.elim)) fun _ _ h' => h'.elim)
    cases ok with
    | false => exact wpAny_pure ⟨rfl, h₃⟩
    | true =>
      exact wpAny_bind (wpAny_bind (wpAny_mono h₃ (fun x s₄ h₄ => wpAny_bind (wpAny_mono h₄ (fun _ s₅ h₅ => wpAny_pure (wpAny_pure ⟨rfl, h₅⟩)) fun _ _ h' => h'.elim)) fun _ _ h' => h'.elim))
/-- append to a plain list, by its object -/
theorem append_obj {l : Addr} {items : List Value} {n : Nat} {x : Value} {Q : Value → Shared → Prop} (ho : s.heap.get? l = some { cls := .type "list", data := .seq items.toArray n })
    (hQ : ∀ h', h'.get? l = some { cls := .type "list", data := .seq (items ++ [x]).toArray (n + 1) } → Heap.SameBut l s.heap h' → Q .none { s with heap := h' }) (hsz : items.length ≤ sizeLine) :
    wpAny (model prog w) A (call (.builtin "list.append") [.ref l, x]) Q E s := by
  have hl : s.heap.IsList l items.toArray := ⟨_, ho, rfl, n, rfl⟩
  refine wpAny_call_entry slot_list_append hl.typeIs entry_list_append ?_ (args_list_append _ _)
  show wpAny _ _ (updateSeq l (·.push x) >>= fun _ => ret .none) _ _ s
  refine wpAny_bind ?_
  refine wpAny_updateSeq (hz := by rw [List.size_toArray]; exact hsz) ho rfl (wpAny_pure ⟨.none, rfl, hQ _ ?_ (Heap.SameBut.update ..)⟩)
  rw [Heap.get?_update_self _ ho (by rfl)]
  simp [Obj.mapSeq]
end
/-! ### the cells that a block sees -/
noncomputable def clOf (env : Env) : List (Str × NameKind) → List (Str × Addr) → List (Str × Addr)
  | [], acc => acc
  | (n, k) :: r, acc => if k == .free then (match env.cells.lookup n with
    | some a => clOf env r ((n, a) :: acc)
    | none => clOf env r acc) else clOf env r acc
theorem clos_run (env : Env) : ∀ (names : List (Str × NameKind)) (acc : List (Str × Addr)), (∀ y ∈ names, y.2 = .free → ∃ a, env.cells.lookup y.1 = some a) →
    (forIn names acc fun (x : Str × NameKind) (cs : List (Str × Addr)) => (if (x.2 == NameKind.free) = true then do let a ← cellOf env x.1; pure (ForInStep.yield ((x.1, a) :: cs)) else pure (ForInStep.yield cs) : Sem (ForInStep (List (Str × Addr))))) = pure (clOf env names acc)
  | [], acc, _ => rfl
  | (n, k) :: r, acc, h => by
    have ih := fun acc => clos_run env r acc fun y hy => h y (List.mem_cons_of_mem _ hy)
    rw [List.forIn_cons]
    unfold clOf
    by_cases hk : (k == NameKind.free) = true
    · obtain ⟨a, ha⟩ := h (n, k) List.mem_cons_self (by simpa using hk)
      have e : cellOf env n = pure a := by unfold cellOf; rw [ha]
      simp only [hk, if_true, e, ha, pure_bind]
      exact ih _
    · have hk' : (k == NameKind.free) = false := by simpa using hk
      simp only [hk', Bool.false_eq_true, if_false, pure_bind]
      exact ih _
theorem closureFor_of {scope : Scope} {env : Env} (h : ∀ y ∈ scope.names, y.2 = .free → ∃ a, env.cells.lookup y.1 = some a) : closureFor scope env = pure (clOf env scope.names []) := by
  have e := clos_run env scope.names [] h
  unfold closureFor
  simp only [bind_pure]
  refine Eq.trans ?_ e
  rfl
theorem clOf_look {env : Env} {x : Str} {c : Addr} : ∀ (names : List (Str × NameKind)) (acc : List (Str × Addr)), (∀ y a, acc.lookup y = some a → env.cells.lookup y = some a) → (clOf env names acc).lookup x = some c → env.cells.lookup x = some c
  | [], acc, h, e => h x c e
  | (n, k) :: r, acc, h, e => by
    unfold clOf at e
    split at e
    · split at e
      · rename_i a ha
        refine clOf_look r _ (fun y b hb => ?_) e
        rw [List.lookup_cons] at hb
        cases hy : y == n with
        | true =>
          rw [hy] at hb
          have ey : y = n := eq_of_beq hy
          subst ey
          cases hb
          exact ha
        | false => rw [hy] at hb; exact h y b hb
      · exact clOf_look r _ h e
    · exact clOf_look r _ h e
theorem clOf_acc {env : Env} {x : Str} {c : Addr} (hx : env.cells.lookup x = some c) : ∀ (names : List (Str × NameKind)) (acc : List (Str × Addr)), acc.lookup x = some c ∨ (x, NameKind.free) ∈ names → (clOf env names acc).lookup x = some c
  | [], acc, h => by
    rcases h with h | h
    · exact h
    · cases h
  | (n, k) :: r, acc, h => by
    unfold clOf
    have keep : ∀ a, env.cells.lookup n = some a → acc.lookup x = some c → ((n, a) :: acc).lookup x = some c := by
      intro a ha hl
      rw [List.lookup_cons]
      cases hy : x == n with
      | true =>
        have ey : x = n := eq_of_beq hy
        subst ey
        rw [hx] at ha
        cases ha
        rfl
      | false => exact hl
    split
    · rename_i hk
      split
      · rename_i a ha
        refine clOf_acc hx r _ ?_
        rcases h with h | h
        · exact .inl (keep a ha h)
        · rcases List.mem_cons.mp h with e | h
          · cases e
            refine .inl ?_
            rw [hx] at ha
            cases ha
            simp
          · exact .inr h
      · rename_i hn
        refine clOf_acc hx r _ ?_
        rcases h with h | h
        · exact .inl h
        · rcases List.mem_cons.mp h with e | h
          · cases e
            rw [hx] at hn
            cases hn
          · exact .inr h
    · rename_i hk
      refine clOf_acc hx r _ ?_
      rcases h with h | h
      · exact .inl h
      · rcases List.mem_cons.mp h with e | h
        · cases e
          exact absurd rfl hk
        · exact .inr h

/-! ### the block -/
noncomputable def relS (scope sc : Scope) : Scope :=
  { scope with names := scope.names.map fun (n, k) => if (k == .free && sc.kind == .function && sc.names.lookup n == some .cell) then (n, .cell) else (n, k) }
/-- what of the two scopes a block asks: sc the scope around, N0 its names; N the block's names: nT targets, then those captured, at caps of N0 -/
structure Blk (sc scope : Scope) (N0 N : List Str) (caps : List Nat) (nT : Nat) : Prop where
  kind : scope.kind = .function
  nocell : ∀ y ∈ scope.names, y.2 ≠ .cell
  names : ∀ y ∈ scope.names, y.2 = .local → scope.names.lookup y.1 = some .local
  free : ∀ y ∈ scope.names, y.2 = .free → sc.names.lookup y.1 = some .cell ∨ sc.names.lookup y.1 = some .free
  len : N.length = nT + caps.length
  cap : ∀ q ∈ (List.range caps.length), ∃ i x, caps[q]? = some i ∧ N[nT + q]? = some x ∧ N0[i]? = some x ∧ (x, NameKind.free) ∈ scope.names ∧ ((relS scope sc).names.lookup x = some .cell ∨ (relS scope sc).names.lookup x = some .free)
noncomputable def blkB (sc scope : Scope) (N0 N : List Str) (caps : List Nat) (nT : Nat) : Bool :=
  (scope.kind == .function) && scope.names.all (fun y => !(y.2 == .cell)) && scope.names.all (fun y => !(y.2 == .local) || scope.names.lookup y.1 == some .local) &&
    scope.names.all (fun y => !(y.2 == .free) || (sc.names.lookup y.1 == some .cell || sc.names.lookup y.1 == some .free)) && (N.length == nT + caps.length) &&
    (List.range caps.length).all fun q => match caps[q]?, N[nT + q]? with
      | some i, some x => (N0[i]? == some x) && scope.names.any (fun y => y.1 == x && y.2 == .free) && ((relS scope sc).names.lookup x == some .cell || (relS scope sc).names.lookup x == some .free)
      | _, _ => false
theorem Blk.of {sc scope : Scope} {N0 N : List Str} {caps : List Nat} {nT : Nat} (h : blkB sc scope N0 N caps nT = true) : Blk sc scope N0 N caps nT := by
  unfold blkB at h
  simp only [Bool.and_eq_true] at h
  obtain ⟨⟨⟨⟨⟨h1, h2⟩, h3⟩, h4⟩, h5⟩, h6⟩ := h
  refine ⟨eq_of_beq h1, fun y hy => ?_, fun y hy hl => ?_, fun y hy hl => ?_, eq_of_beq h5, fun q hq => ?_⟩
  · have := List.all_eq_true.mp h2 y hy
    simpa using this
  · have := List.all_eq_true.mp h3 y hy
    rw [hl] at this
    simpa using this
  · have := List.all_eq_true.mp h4 y hy
    rw [hl] at this
    simpa using this
  · have := List.all_eq_true.mp h6 q hq
    split at this
    · rename_i i x e1 e2
      simp only [Bool.and_eq_true, Bool.or_eq_true, List.any_eq_true, beq_iff_eq] at this
      obtain ⟨⟨g1, ⟨y, g2, g3, g4⟩⟩, g5⟩ := this
      refine ⟨i, x, e1, e2, g1, ?_, g5⟩
      obtain ⟨y1, y2⟩ := y
      simp only at g3 g4
      subst g3 g4
      exact g2
    · cases this
noncomputable def cxC (X : Cx) (N : List Str) (scope : Scope) (acc : Addr) (fp : List Addr) (s3 : Shared) (H : Hp) : Cx :=
  { X with N := N, s₀ := s3, H₀ := H, env := compEnvC scope (clOf X.env scope.names []) s3.heap.objs.size X.env, outer := X.stack, ex := acc :: fp, fn := fun _ => false, pn := [], xe := fun _ _ => False }
noncomputable def capEv (ρ : Ev) (caps : List Nat) (nT : Nat) : Ev := List.replicate nT none ++ caps.map fun i => (ρ[i]?).join
noncomputable def capSt (σ : L2.St) (caps : List Nat) (nT : Nat) : L2.St := List.replicate nT none ++ caps.map fun i => (σ[i]?).join
theorem capEnv {K : PySem.W.Frag} {O : List Addr} {H : Hp} {ρ : Ev} {σ : L2.St} (E : REnv K O H ρ σ) (caps : List Nat) (nT : Nat) : REnv K O H (capEv ρ caps nT) (capSt σ caps nT) := by
  refine ⟨by simp [capEv, capSt], fun i d h => ?_⟩
  unfold capEv at h
  unfold capSt
  by_cases hi : i < nT
  · rw [List.getElem?_append_left (by simpa using hi), List.getElem?_replicate] at h
    split at h <;> cases h
  · rw [List.getElem?_append_right (by simpa using hi)] at h ⊢
    rw [List.length_replicate, List.getElem?_map] at h ⊢
    cases hc : caps[i - nT]? with
    | none => rw [hc] at h; cases h
    | some j =>
      rw [hc] at h
      simp only [Option.map_some, Option.some.injEq] at h ⊢
      cases hj : ρ[j]? with
      | none => rw [hj] at h; cases h
      | some z =>
        rw [hj] at h
        simp only [Option.join_some] at h
        subst h
        obtain ⟨v, h1, h2⟩ := E.at_ j d hj
        exact ⟨v, by rw [h1]; rfl, h2⟩
section
variable {X : Cx} {pins : List (Addr × Obj)} {σ : L2.St} {H : Hp} {s : Shared} {scope : Scope} {N : List Str} {caps : List Nat} {nT : Nat} {fp : List Addr}
/-- the block's own beginning: s2 is where the iterator stands, the new list comes next, then the block's names -/
theorem blk_start (B : Blk X.env.scope scope X.N N caps nT) (I : Inv X pins σ H s) (hf : ∀ b ∈ fp, FpOk X pins H b) (ho : ∀ b ∈ fp, ∃ o, s.heap.get? b = some o) {h4 : Heap} {tk : Nat}
    (hns : h4.Ns (s.heap.push { cls := .type "list", data := .seq ([] : List Value).toArray }).objs.size (fun x => ([] : List (Str × Value)).reverse.lookup x))
    (hsb : Heap.SameBut (s.heap.push { cls := .type "list", data := .seq ([] : List Value).toArray }).objs.size ((s.heap.push { cls := .type "list", data := .seq ([] : List Value).toArray }).push { cls := .type "dict", data := .dict #[] }) h4) :
    Inv (cxC X N scope s.heap.objs.size fp { s with heap := s.heap.push { cls := .type "list", data := .seq ([] : List Value).toArray } } H) [] (capSt σ caps nT) H { s with heap := h4, toks := tk } := by
  generalize hH2 : s.heap.push { cls := .type "list", data := .seq ([] : List Value).toArray } = h3 at hns hsb ⊢
  have hC : h3.objs.size = s.heap.objs.size + 1 := by rw [← hH2, Heap.size_push]
  have k3 : ∀ b o, s.heap.get? b = some o → h3.get? b = some o := fun b o e => hH2 ▸ Heap.get?_push_of_some _ e
  have I3 : Inv X pins σ H { s with heap := h3 } := I.kept (t' := s.toks) k3
  have k4 : ∀ b o, h3.get? b = some o → h4.get? b = some o := fun b o e => hsb.extBut b o (Nat.ne_of_lt (Heap.lt_size e)) (Heap.get?_push_of_some _ e)
  have lt3 : ∀ b o, s.heap.get? b = some o → b < h3.objs.size := fun b o e => Heap.lt_size (k3 b o e)
  have cells : ∀ x c, (clOf X.env scope.names []).lookup x = some c → X.env.cells.lookup x = some c := fun x c e => clOf_look scope.names [] (fun y a z => by cases z) e
  have ok : (cxC X N scope s.heap.objs.size fp { s with heap := h3 } H).Ok := by
    refine ⟨I.ok.mod, B.kind, I.ok.glob, I.ok.blt, Nat.le_refl _, fun x y c h1 h2 => I.ok.inj x y c (cells _ _ h1) (cells _ _ h2), ?_, fun x c hx => (by cases hx), I.ok.hd, I.ok.frames, .inl rfl, ?_, I3.bs, Nat.le_trans I.ok.bsz (Nat.le_trans I.sz (by show s.heap.objs.size ≤ h3.objs.size; omega)), ?_, ?_, I3.stack, I3.stkFree⟩
    · intro x hx
      have hx' : (relS scope X.env.scope).names.lookup x = some .cell ∨ (relS scope X.env.scope).names.lookup x = some .free := hx
      have hm : (x, NameKind.free) ∈ scope.names := by
        have mem : ∀ (l : List (Str × NameKind)), ((l.map fun (n, k) => if (k == NameKind.free && X.env.scope.kind == .function && X.env.scope.names.lookup n == some .cell) then (n, NameKind.cell) else (n, k)).lookup x = some .cell ∨ (l.map fun (n, k) => if (k == NameKind.free && X.env.scope.kind == .function && X.env.scope.names.lookup n == some .cell) then (n, NameKind.cell) else (n, k)).lookup x = some .free) → (∀ y ∈ l, y.2 ≠ .cell) → (x, NameKind.free) ∈ l := by
          intro l
          induction l with
          | nil => intro h _; rcases h with h | h <;> cases h
          | cons y l ih =>
            obtain ⟨n, k⟩ := y
            intro h hnc
            rw [List.map_cons] at h
            by_cases hc : (k == NameKind.free && X.env.scope.kind == .function && X.env.scope.names.lookup n == some .cell) = true
            · simp only [hc, if_true, List.lookup_cons] at h
              have hk : k = .free := by simp only [Bool.and_eq_true] at hc; simpa using hc.1.1
              cases hy : x == n with
              | true => rw [eq_of_beq hy, hk]; exact List.mem_cons_self
              | false =>
                rw [hy] at h
                exact List.mem_cons_of_mem _ (ih h fun z hz => hnc z (List.mem_cons_of_mem _ hz))
            · simp only [hc, if_false, List.lookup_cons, Bool.false_eq_true] at h
              cases hy : x == n with
              | true =>
                rw [hy] at h
                have hk : k = .free := by
                  rcases h with h | h
                  · exact absurd (Option.some.inj h) (hnc (n, k) List.mem_cons_self)
                  · exact Option.some.inj h
                rw [eq_of_beq hy, hk]; exact List.mem_cons_self
              | false =>
                rw [hy] at h
                exact List.mem_cons_of_mem _ (ih h fun z hz => hnc z (List.mem_cons_of_mem _ hz))
        exact mem scope.names hx' B.nocell
      obtain ⟨c, hc⟩ := I.ok.has x (B.free _ hm rfl)
      exact ⟨c, clOf_acc hc scope.names [] (.inr hm)⟩
    · intro b hb
      rcases List.mem_cons.mp hb with rfl | hb
      · refine ⟨?_, fun x c h1 h2 => ?_⟩
        · show s.heap.objs.size ≠ h3.objs.size
          omega
        · obtain ⟨v, o, ho', _⟩ := I.cell x c (cells _ _ h1)
          exact absurd (h2 ▸ Heap.lt_size ho') (Nat.lt_irrefl _)
      · obtain ⟨o, ho'⟩ := ho b hb
        refine ⟨?_, fun x c h1 => (hf b hb).2.2.2.2.1 x c (cells _ _ h1)⟩
        exact Nat.ne_of_lt (lt3 b o ho')
    · intro b o hb
      intro hm
      rcases List.mem_cons.mp hm with rfl | hm
      · exact absurd (Heap.lt_size (I.bk _ _ hb)) (Nat.lt_irrefl _)
      · rcases (hf b hm).2.2.2.1 with h1 | h1
        · exact I.ok.noex b o hb h1
        · exact absurd (Nat.lt_of_lt_of_le (Heap.lt_size (I.ok.bs b o hb).1) h1) (Nat.lt_irrefl _)
    · intro b hb hm
      rcases List.mem_cons.mp hb with rfl | hb
      · rcases List.mem_cons.mp (I.stkSub _ hm) with h1 | h1
        · have := I.lt
          rw [← h1] at this
          exact absurd this (Nat.lt_irrefl _)
        · exact I.nofs (Nat.le_refl _) h1
      · rcases List.mem_cons.mp (I.stkSub _ hm) with h1 | h1
        · exact (hf b hb).2.1 h1
        · exact (hf b hb).2.2.1 h1
  refine ⟨ok, rfl, I.bare, Un.kept k4, ?_, ?_, ?_, ?_, (fun p hp => (by cases hp)), I3.hok.kept k4, ?_⟩
  · refine ⟨_, hns, fun i x v h1 h2 hv => ?_⟩
    by_cases hi : i < nT
    · unfold capSt at h2
      rw [List.getElem?_append_left (by simpa using hi), List.getElem?_replicate] at h2
      split at h2 <;> cases h2
    · unfold capSt at h2
      rw [List.getElem?_append_right (by simpa using hi), List.length_replicate, List.getElem?_map] at h2
      cases hc : caps[i - nT]? with
      | none => rw [hc] at h2; cases h2
      | some j =>
        rw [hc] at h2
        simp only [Option.map_some, Option.some.injEq] at h2
        cases hj : σ[j]? with
        | none => rw [hj] at h2; cases h2
        | some z =>
          rw [hj] at h2
          simp only [Option.join_some] at h2
          subst h2
          have hq : i - nT < caps.length := (List.getElem?_eq_some_iff.mp hc).1
          obtain ⟨j', x', e1, e2, e3, e4, e5⟩ := B.cap (i - nT) (List.mem_range.mpr hq)
          rw [hc] at e1
          cases e1
          have en : nT + (i - nT) = i := by omega
          rw [en] at e2
          have ex : x' = x := Option.some.inj (e2.symm.trans h1)
          subst ex
          have hk := B.free _ e4 rfl
          obtain ⟨m, hm, hloc⟩ := I.loc
          obtain ⟨u, ru, lk⟩ := hloc j x' v e3 hj (hk.elim (fun z => .inr (.inl z)) fun z => .inr (.inr z))
          rcases lk with ⟨hl, _⟩ | ⟨_, c, hc1, hc2⟩
          · rcases hk with hk | hk
            · have : X.env.scope.names.lookup x' = some .local := hl
              rw [hk] at this; cases this
            · have : X.env.scope.names.lookup x' = some .local := hl
              rw [hk] at this; cases this
          · refine ⟨u, ru, .inr ⟨e5, c, clOf_acc hc1 scope.names [] (.inr e4), ?_⟩⟩
            obtain ⟨o, ho', hd⟩ := hc2
            exact ⟨o, k4 _ _ (k3 _ _ ho'), hd⟩
  · intro x c h1
    obtain ⟨v, o, ho', hd⟩ := I.cell x c (cells _ _ h1)
    exact ⟨v, o, k4 _ _ (k3 _ _ ho'), hd⟩
  · exact I3.hok.fresh (Nat.le_refl _)
  · intro x c h1
    exact I.freeC x c (cells _ _ h1)
  · show (capSt σ caps nT).length = N.length
    rw [B.len]
    simp [capSt]
end
end DL

end
/-! DL9 -/
section
set_option Elab.async false
set_option linter.all false
set_option maxRecDepth 100000
/-! DL part 9: list comprehensions, the rule -/
namespace DL
open PySem PySem.Spec PyProof.Rows L2
section
variable {X : Cx} {pins : List (Addr × Obj)} {σ : L2.St} {H : Hp} {s : Shared} {scope : Scope} {N : List Str} {fp : List Addr}
/-- behind the block: the new list is tracked -/
theorem blk_end (I : Inv X pins σ H s) (hf : ∀ b ∈ fp, FpOk X pins H b) {σc : L2.St} {H' : Hp} {s' : Shared} {vs : List V} {its : List Value} {n : Nat}
    (J : Inv (cxC X N scope s.heap.objs.size fp { s with heap := s.heap.push { cls := .type "list", data := .seq ([] : List Value).toArray } } H) [] σc H' s')
    (ha : s'.heap.get? s.heap.objs.size = some { cls := .type "list", data := .seq its.toArray n }) (hn : H' s.heap.objs.size = none) (hv : Vals vs its) (hz : vs.length ≤ sizeLine) : Inv X pins σ (upd H' s.heap.objs.size (.lst vs)) s' := by
  have u := J.base
  have push : ∀ b o, s.heap.get? b = some o → (s.heap.push { cls := .type "list", data := .seq ([] : List Value).toArray }).get? b = some o := fun b o e => Heap.get?_push_of_some _ e
  have ne : ∀ b o, s.heap.get? b = some o → b ≠ s.heap.objs.size := fun b o e => Nat.ne_of_lt (Heap.lt_size e)
  have nex : ∀ b o, s.heap.get? b = some o → b ∉ fp → b ∉ s.heap.objs.size :: fp := fun b o e hb hm => by
    rcases List.mem_cons.mp hm with h | h
    · exact ne b o e h
    · exact hb h
  refine I.call' (ch := fp) J.os ?_ ?_ J.bare fun b hb => ⟨(hf b hb).2.2.2.1, (hf b hb).2.1, (hf b hb).2.2.2.2.1, (hf b hb).2.2.2.2.2⟩
  · refine ⟨fun b o e h0 h1 h2 => u.keep b o (push b o e) h0 h1 (nex b o e h2), fun b o e h0 h1 h2 => u.slot b o (push b o e) h0 h1 (nex b o e h2), fun b o e h0 h2 => ?_, fun b o e h2 => u.there b o (push b o e) (nex b o e h2), fun b xs e => ?_, fun b o w e => ?_, fun b ps e => ?_⟩
    · rw [upd_ne (ne b o e)]
      exact u.free b o (push b o e) h0 (nex b o e h2)
    · have h1 := u.tups b xs e
      rw [upd_ne (ne_of_none h1 hn)]
      exact h1
    · have h1 := u.frzs b o w e
      rw [upd_ne (ne_of_none h1 hn)]
      exact h1
    · obtain ⟨more, h1⟩ := u.tbls b ps e
      exact ⟨more, by rw [upd_ne (ne_of_none h1 hn)]; exact h1⟩
  · intro a o e
    by_cases haa : a = s.heap.objs.size
    · subst haa
      rw [upd_same] at e
      cases e
      exact ⟨hz, its, n, hv, ha⟩
    · rw [upd_ne haa] at e
      exact (J.hok a o e).stay (fun b u _ q => q) (fun b q => by rw [upd_ne (ne_of_none q hn)]; exact q) fun b xs q => by rw [upd_ne (ne_of_none q hn)]; exact q
end
/-! ### what it means -/
noncomputable def dTrue : DT := fun _ st => .ok true st
open Classical in
noncomputable def compD (chk : Sto → Prop) (t : TgD) (cond : DT) (fe : DE) : List D → Ev → Sto → List D → Out (List D)
  | [], _, st, acc => if chk st then .ok acc st else .bad
  | x :: xs, ρ, st, acc => if chk st ∧ acc.length < small then (match t x ρ with
    | none => .bad
    | some ρ1 => match cond ρ1 st with
      | .ok true st1 => (match fe ρ1 st1 with
        | .ok d st2 => compD chk t cond fe xs ρ1 st2 (acc ++ [d])
        | _ => .bad)
      | .ok false st1 => compD chk t cond fe xs ρ1 st1 acc
      | _ => .bad) else .bad
noncomputable def dComp (caps : List Nat) (nT : Nat) (f : DI) (t : TgD) (cond : DT) (fe : DE) : DA := fun ρ st => (f ρ st).bind fun q st1 => compD q.2 t cond fe q.1 (capEv ρ caps nT) st1 []
/-- the tests of a block -/
noncomputable def PTs (X : Cx) (ifs : List Expr) (cond : DT) : Prop := ∀ (pins : List (Addr × Obj)) (s : Shared) (σ : L2.St) (H : Hp) (Q : Bool → Hp → Prop), Inv X pins σ H s → tDT X.K EX0 cond σ H Q →
  wpAny (model X.prog X.w) X.A (forIn ifs true fun c r => if r = true then do let ok ← isTrue c X.env (eval c X.env); pure (ForInStep.yield ok) else pure (ForInStep.yield r)) (TP X pins σ Q) X.xe s
theorem pts_nil {X : Cx} : PTs X [] dTrue := by
  rintro pins s σ H Q I ⟨O, ρ, st, W, E, R⟩
  exact wpAny_tests_nil ⟨H, I, Run.now (k := fun b _ _ H' => Q b H') R W⟩
theorem pts_one {X : Cx} {c : Expr} {t : DT} (h : PDT X EX0 c t) : PTs X [c] t := fun pins s σ H Q I q => wpAny_tests_one (h pins s σ H Q I q)
section
variable {X : Cx} {EX : EXT} {scope : Scope} {N : List Str} {caps : List Nat} {nT : Nat} {elt tg iter : Expr} {ifs : List Expr} {pos : Pos} {f : DI} {t : TgD} {cond : DT} {fe : DE}
/-- the judgements of a block -/
structure BlkOk (X : Cx) (scope : Scope) (N : List Str) (caps : List Nat) (nT : Nat) (tg elt : Expr) (ifs : List Expr) (t : TgD) (cond : DT) (fe : DE) : Prop where
  blk : Blk X.env.scope scope X.N N caps nT
  tgt : ∀ acc fp s3 H, PGD (cxC X N scope acc fp s3 H) tg t
  tst : ∀ acc fp s3 H, PTs (cxC X N scope acc fp s3 H) ifs cond
  elt : ∀ acc fp s3 H, PD (cxC X N scope acc fp s3 H) EX0 elt fe
/-- from the iterator on -/
theorem lc_block (hc : X.calm = true) (B : BlkOk X scope N caps nT tg elt ifs t cond fe) {pins : List (Addr × Obj)} {σ : L2.St} {H : Hp} {s : Shared} {O : List Addr} {ρ : Ev} {st : Sto} {q : Wk} {J : It} {fp : List Addr} {it : Addr} {tn : Nat → Heap → Prop} {Q : VK} {E : Value → Shared → Prop}
    {RR : Value → Addr → Result → Shared → Prop}
    (I : Inv X pins σ H s) (T : Turn X.prog X.w X.K tg J fp it tn) (h0 : tn 0 s.heap) (hf : ∀ b ∈ fp, FpOk X pins H b) (hJ : ItD X.K J O H q) (W : WR X.K O H st) (Er : REnv X.K O H ρ σ)
    (R : Run X.K EX O H (compD q.2 t cond fe q.1 (capEv ρ caps nT) st []) (New X.K Q))
    (hRR : ∀ (p C : Addr) (H' : Hp) (vs : List V) (s' : Shared) (m : Str → Option Value), s.heap.objs.size ≤ C → H' C = none → s'.heap.Ns C m → p ≠ C → Inv X pins σ (upd H' p (.lst vs)) s' → Q (.ref p) (upd H' p (.lst vs)) → RR (.ref p) C (.ok .next) s') :
    wpAny (model X.prog X.w) X.A (newList []) (fun acc s₃ => wpAny (model X.prog X.w) X.A (newFunctionEnv scope X.env.globals (clOf X.env scope.names []) [] X.env.qual none .none (some X.env)) (fun cenv s₄ =>
      codeAny (model X.prog X.w) X.A (.compStart (.ListComp elt [⟨tg, iter, ifs, 0⟩] scope pos) 0 (.ref it) acc { cenv with scope := relabel scope X.env }) (RR acc cenv.locals) s₄) E s₃) E s := by
  refine wpAny_newObj_type (wpAny_newFunctionEnv B.blk.nocell (by intro y hy; simp at hy) (fun h₁ hns₁ hsb₁ => ?_) B.blk.kind)
  dsimp only at hns₁ hsb₁ ⊢
  have ltC : s.heap.objs.size < (s.heap.push { cls := .type "list", data := .seq ([] : List Value).toArray }).objs.size := by rw [Heap.size_push]; exact Nat.lt_succ_self _
  have fpo : ∀ b ∈ fp, ∃ o, s.heap.get? b = some o := fun b hb => let ⟨o, e, _⟩ := T.obj 0 _ h0 b hb; ⟨o, e⟩
  have I4 := blk_start (tk := s.toks + ([] : List (Str × Value)).length) B.blk I hf fpo hns₁ hsb₁
  have fpne : ∀ b ∈ fp, b ≠ s.heap.objs.size := fun b hb => let ⟨o, e⟩ := fpo b hb; Nat.ne_of_lt (Heap.lt_size e)
  generalize hXC : cxC X N scope s.heap.objs.size fp { s with heap := s.heap.push { cls := .type "list", data := .seq ([] : List Value).toArray } } H = XC at I4
  have fok : ∀ (H' : Hp) (P : List (Addr × Obj)), (∀ b ∈ fp, H' b = none) → (∀ p ∈ P, p.1 ∉ fp) → ∀ b ∈ fp, FpOk XC P H' b := by
    intro H' P h1 h2 b hb
    subst hXC
    obtain ⟨o, e⟩ := fpo b hb
    refine ⟨h1 b hb, Nat.ne_of_lt (Nat.lt_trans (Heap.lt_size e) ltC), fun hm => ?_, .inl (List.mem_cons_of_mem _ hb), fun x c hx => (hf b hb).2.2.2.2.1 x c (clOf_look scope.names [] (fun y a z => (by cases z)) hx), fun p hp hpe => h2 p (by have hp' : p ∈ [] ++ P := hp; simpa using hp') (hpe ▸ hb)⟩
    rcases List.mem_cons.mp (I.stkSub _ hm) with z | z
    · exact (hf b hb).2.1 z
    · exact (hf b hb).2.2.1 z
  have aok : ∀ (H' : Hp), H' s.heap.objs.size = none → FpOk XC [] H' s.heap.objs.size := by
    intro H' h1
    subst hXC
    refine ⟨h1, Nat.ne_of_lt ltC, fun hm => ?_, .inl List.mem_cons_self, fun x c hx z => ?_, fun p hp => by cases hp⟩
    · rcases List.mem_cons.mp (I.stkSub _ hm) with z | z
      · have := I.lt
        rw [← z] at this
        exact absurd this (Nat.lt_irrefl _)
      · exact I.nofs (Nat.le_refl _) z
    · obtain ⟨v, o, ho', _⟩ := I.cell x c (clOf_look scope.names [] (fun y a z => (by cases z)) hx)
      exact absurd (z ▸ Heap.lt_size ho') (Nat.lt_irrefl _)
  have k4 : ∀ b o, s.heap.get? b = some o → h₁.get? b = some o := fun b o e => hsb₁.extBut b o (Nat.ne_of_lt (Nat.lt_trans (Heap.lt_size e) ltC)) (Heap.get?_push_of_some _ (Heap.get?_push_of_some _ e))
  have hacc0 : h₁.get? s.heap.objs.size = some { cls := .type "list", data := .seq ([] : List Value).toArray } := hsb₁.extBut _ _ (Nat.ne_of_lt ltC) (Heap.get?_push_of_some _ (Heap.get?_push_size _ rfl))
  have eP : XC.prog = X.prog := by subst hXC; rfl
  have eW : XC.w = X.w := by subst hXC; rfl
  have eK : XC.K = X.K := by subst hXC; rfl
  have eA : XC.A = X.A := by subst hXC; rfl
  have eC : XC.calm = true := by subst hXC; exact hc
  have eX : XC.xe = fun _ _ => False := by subst hXC; rfl
  have eE : XC.env = compEnvC scope (clOf X.env scope.names []) (s.heap.push { cls := .type "list", data := .seq ([] : List Value).toArray }).objs.size X.env := by subst hXC; rfl
  have loop : ∀ s4 : Shared, s4 = { s with heap := h₁, toks := s.toks + ([] : List (Str × Value)).length } →
      codeAny (model X.prog X.w) X.A (.compLoop (.ListComp elt [⟨tg, iter, ifs, 0⟩] scope pos) 0 (.ref it) (.ref s.heap.objs.size) XC.env) (RR (.ref s.heap.objs.size) (s.heap.push { cls := .type "list", data := .seq ([] : List Value).toArray }).objs.size) s4 := by
    intro s4 es4
    refine compLoop_gen (fun n s' => ∃ (i : Nat) (O' : List Addr) (ρ' : Ev) (st' : Sto) (ds : List D) (vs : List V) (its : List Value) (nn : Nat) (H' : Hp) (σc : L2.St), n + i = q.1.length ∧ Inv XC [] σc H' s' ∧ Keep X.K O H O' H' ∧ WR X.K O' H' st' ∧ REnv X.K O' H' ρ' σc ∧ tn i s'.heap ∧
      (∀ b ∈ fp, H' b = none) ∧ s'.heap.get? s.heap.objs.size = some { cls := .type "list", data := .seq its.toArray nn } ∧ H' s.heap.objs.size = none ∧ Vals vs its ∧ Reps X.K O' H' ds vs ∧ ds.length ≤ small ∧ Run X.K EX O' H' (compD q.2 t cond fe (q.1.drop i) ρ' st' ds) (New X.K Q)) ?_ q.1.length ?_
    · rintro n s' ⟨i, O', ρ', st', ds, vs, its, nn, H', σc, hn, Ic, kp, W', E', htn, hfn, hacc, haccH, hv, hr, hz, hR⟩
      have IcA : Inv XC (pinsAt [s.heap.objs.size] s'.heap) σc H' s' := by
        have := Ic.pinned (fp := [s.heap.objs.size]) (fun b hb => by rw [List.mem_singleton] at hb; subst hb; exact aok H' haccH) (fun b hb => by rw [List.mem_singleton] at hb; subst hb; exact ⟨_, hacc, fun v z => by cases z⟩)
        simpa using this
      have pA : ∀ p ∈ pinsAt [s.heap.objs.size] s'.heap, p.1 ∉ fp := fun p hp hm => by
        have := (of_pinsAt hp).1
        rw [List.mem_singleton] at this
        exact fpne _ hm this
      have hpin : (s.heap.objs.size, ({ cls := .type "list", data := .seq its.toArray nn } : Obj)) ∈ pinsAt [s.heap.objs.size] s'.heap := mem_pinsAt (List.mem_singleton.mpr rfl) hacc
      cases hd : q.1.drop i with
      | nil =>
        rw [hd] at hR
        unfold compD at hR
        by_cases hch : q.2 st'
        · rw [if_pos hch] at hR
          have hl : q.1.length ≤ i := List.drop_eq_nil_iff.mp hd
          have hstop := (hJ i O' H' st' kp W' hch).2 hl
          have hw := T.done XC eP eW eK eC i (pinsAt [s.heap.objs.size] s'.heap) s' σc H' (fun _ _ => False) IcA (fok H' _ hfn pA) htn hstop
          rw [eA] at hw
          refine wpAny_mono hw (fun r s1 hr1 => ?_) fun _ _ z => z
          obtain ⟨rfl, I1⟩ := hr1
          obtain ⟨p1, p2, _⟩ := I1.pin _ (List.mem_append_right _ hpin)
          obtain ⟨m, hm, _⟩ := I1.loc
          have I1' : Inv XC [] σc H' s1 := I1.pins_of fun p hp => I1.pin p (List.mem_append_left _ (by simpa using hp))
          have hCf := I1.free
          rw [eE] at hm hCf
          refine hRR _ _ H' vs s1 m (Nat.le_of_lt ltC) hCf hm (Nat.ne_of_lt ltC) ?_ (Run.now (k := New X.K Q) hR W' _ vs hr haccH)
          subst hXC
          exact blk_end I hf I1' p1 haccH hv (by rw [← hr.length]; exact Nat.le_trans hz small_le)
        · rw [if_neg hch] at hR; exact hR.elim
      | cons x xs =>
        rw [hd] at hR
        unfold compD at hR
        have hx : q.1[i]? = some x := by
          have := List.getElem?_drop (xs := q.1) (i := i) (j := 0)
          rw [hd] at this
          simpa using this.symm
        have hxs : q.1.drop (i + 1) = xs := by
          have := List.drop_drop (i := 1) (j := i) (l := q.1)
          rw [hd] at this
          simpa using this.symm
        have hi : i < q.1.length := (List.getElem?_eq_some_iff.mp hx).1
        by_cases hch : q.2 st' ∧ ds.length < small
        · rw [if_pos hch] at hR
          obtain ⟨hgo, hy⟩ := (hJ i O' H' st' kp W' hch.1).1 x hx
          have hw := T.item XC eP eW eK eC i (pinsAt [s.heap.objs.size] s'.heap) s' σc H' (fun _ _ => False) IcA (fok H' _ hfn pA) htn hgo
          rw [eA] at hw
          refine wpAny_mono hw (fun r s1 hr1 => ?_) fun _ _ z => z
          obtain ⟨u, rfl, hw2⟩ := hr1
          refine wpAny_mono hw2 (fun _ s2 hr2 => ?_) fun _ _ z => z
          obtain ⟨x', H1, I1, rx, hyl, htn1, hfn1⟩ := hr2
          obtain ⟨ky, Wy, ry⟩ := hy x' H1 hyl
          cases ht : t x ρ' with
          | none => rw [ht] at hR; exact hR.elim
          | some ρ1 =>
            rw [ht] at hR
            dsimp only at hR
            have I1' : Inv XC (pinsAt [s.heap.objs.size] s'.heap ++ pinsAt fp s2.heap) σc H1 s2 := I1.pinned (fok H1 _ hfn1 pA) fun b hb => T.obj (i + 1) _ htn1 b hb
            generalize hP2 : pinsAt [s.heap.objs.size] s'.heap ++ pinsAt fp s2.heap = P2 at I1'
            have hpa : (s.heap.objs.size, ({ cls := .type "list", data := .seq its.toArray nn } : Obj)) ∈ P2 := hP2 ▸ List.mem_append_left _ hpin
            have hpf : ∀ b ∈ fp, ∀ o, s2.heap.get? b = some o → (b, o) ∈ P2 := fun b hb o e => hP2 ▸ List.mem_append_right _ (mem_pinsAt hb e)
            have back : ∀ {σ2 : L2.St} {H2 : Hp} {s3 : Shared}, Inv XC P2 σ2 H2 s3 → s3.heap.get? s.heap.objs.size = some { cls := .type "list", data := .seq its.toArray nn } ∧ H2 s.heap.objs.size = none ∧ (∀ b ∈ fp, H2 b = none) ∧ (∀ b ∈ fp, ∀ o, s2.heap.get? b = some o → s3.heap.get? b = some o) ∧ Inv XC [] σ2 H2 s3 := by
              intro σ2 H2 s3 I3
              refine ⟨(I3.pin _ (List.mem_append_right _ hpa)).1, (I3.pin _ (List.mem_append_right _ hpa)).2.1, fun b hb => ?_, fun b hb o e => (I3.pin _ (List.mem_append_right _ (hpf b hb o e))).1, I3.pins_of fun p hp => I3.pin p (List.mem_append_left _ (by simpa using hp))⟩
              obtain ⟨o, e, _⟩ := T.obj (i + 1) _ htn1 b hb
              exact (I3.pin _ (List.mem_append_right _ (hpf b hb o e))).2.1
            have PG1 : PGD XC tg t := by subst hXC; exact B.tgt _ _ _ _
            have PT1 : PTs XC ifs cond := by subst hXC; exact B.tst _ _ _ _
            have PE1 : PD XC EX0 elt fe := by subst hXC; exact B.elt _ _ _ _
            have ha := PG1 P2 s2 σc H1 x' u (fun σ' H'' => H'' = H1 ∧ REnv X.K O' H1 ρ1 σ') I1' rx ⟨O', x, ρ', ρ1, by rw [eK]; exact ry, by rw [eK]; exact E'.mono ky, ht, fun σ' E2 => ⟨rfl, by rw [eK] at E2; exact E2⟩⟩
            rw [eP, eW, eA, eX] at ha
            refine wpAny_mono ha (fun _ s3 hr3 => ?_) fun _ _ z => z
            obtain ⟨σ2, H1', I3, rfl, E2⟩ := hr3
            have hb := PT1 P2 s3 σ2 H1' (fun b H'' => ∃ O'' stb, cond ρ1 st' = .ok b stb ∧ Keep X.K O' H1' O'' H'' ∧ WR X.K O'' H'' stb) I3 ⟨O', ρ1, st', by rw [eK]; exact Wy, by rw [eK]; exact E2, by
              rw [eK]
              cases hcnd : cond ρ1 st' with
              | ok b stb => exact fun O'' H'' k W => ⟨O'', stb, rfl, k, W⟩
              | exc c stb => rw [hcnd] at hR; exact hR.elim
              | bad => rw [hcnd] at hR; exact hR.elim⟩
            rw [eP, eW, eA, eX] at hb
            refine wpAny_mono hb (fun ok s4 hr4 => ?_) fun _ _ z => z
            obtain ⟨H2, I4', O2, stb, hcnd, kb, Wb⟩ := hr4
            rw [hcnd] at hR
            cases ok with
            | false =>
              dsimp only at hR
              obtain ⟨b1, b2, b3, b4, b5⟩ := back I4'
              refine ⟨n - 1, by omega, i + 1, O2, ρ1, stb, ds, vs, its, nn, H2, σ2, by omega, b5, kp.trans (ky.trans kb), Wb, E2.mono kb, T.keep _ _ _ htn1 b4, b3, b1, b2, hv, Reps.mono (ky.trans kb) _ _ hr, hz, ?_⟩
              rw [hxs]
              exact Run.later hR (ky.trans kb)
            | true =>
              dsimp only at hR
              have he := PE1 P2 s4 σ2 H2 (fun v H3 => ∃ O3 st3 d, fe ρ1 stb = .ok d st3 ∧ Keep X.K O2 H2 O3 H3 ∧ WR X.K O3 H3 st3 ∧ Rep X.K O3 H3 d v) I4' ⟨O2, ρ1, stb, by rw [eK]; exact Wb, by rw [eK]; exact E2.mono kb, by
                rw [eK]
                cases hfe : fe ρ1 stb with
                | ok d st3 => exact fun O3 H3 k W v r => ⟨O3, st3, d, rfl, k, W, r⟩
                | exc c st3 => rw [hfe] at hR; exact hR.elim
                | bad => rw [hfe] at hR; exact hR.elim⟩
              rw [eP, eW, eA, eX] at he
              refine wpAny_mono he (fun uv s5 hr5 => ?_) fun _ _ z => z
              obtain ⟨v, H3, I5, rv, O3, st3, d, hfe, ke, We, re⟩ := hr5
              rw [hfe] at hR
              dsimp only at hR
              obtain ⟨b1, b2, b3, b4, b5⟩ := back I5
              refine append_obj b1 (fun h6 hg6 hs6 => ?_) (by rw [← hv.length, ← hr.length]; exact Nat.le_trans hz small_le)
              obtain ⟨f0, f1, f2, f3, f4, f5⟩ := aok H3 b2
              have I6 : Inv XC [] σ2 H3 { s5 with heap := h6 } := b5.turned (t' := s5.toks) (fun b o hb e => (hs6.2 b hb).trans e) f0 f1 f3 f4 f5
              refine ⟨n - 1, by omega, i + 1, O3, ρ1, st3, ds ++ [d], vs ++ [v], its ++ [uv], nn + 1, H3, σ2, by omega, I6, kp.trans (ky.trans (kb.trans ke)), We, E2.mono (kb.trans ke), T.keep _ _ _ htn1 (fun b hb o e => (hs6.2 b (fpne b hb)).trans (b4 b hb o e)), b3, hg6, b2, hv.append (.cons rv .nil), (Reps.mono (ky.trans (kb.trans ke)) _ _ hr).append (Reps.one re), by rw [List.length_append]; exact hch.2, ?_⟩
              rw [hxs]
              exact Run.later hR (ky.trans (kb.trans ke))
        · rw [if_neg hch] at hR; exact hR.elim
    · subst es4
      refine ⟨0, O, capEv ρ caps nT, st, [], [], [], 0, H, capSt σ caps nT, rfl, I4, Keep.refl, W, capEnv Er caps nT, T.keep _ _ _ h0 (fun b hb o e => k4 b o e), fun b hb => (hf b hb).1, hacc0, I.hok.fresh (Nat.le_refl _), .nil, Reps.nil_i.mpr rfl, Nat.zero_le _, ?_⟩
      rw [List.drop_zero]
      exact R
  have e5 : ({ newEnv scope (s.heap.push { cls := .type "list", data := .seq ([] : List Value).toArray }).objs.size X.env.globals (clOf X.env scope.names []) X.env.qual none .none (some X.env) builtinsNs with scope := relabel scope X.env } : Env) = XC.env := by rw [eE]; rfl
  have h5 := loop _ rfl
  refine codeAny_compStart_list ?_ ?_
  · exact e5 ▸ h5
  · exact T.self _ 0 _ _ _ (T.keep _ _ _ h0 (fun b hb o e => k4 b o e)) (e5 ▸ h5)
end
end DL

end
/-! DLa -/
section
set_option Elab.async false
set_option linter.all false
set_option maxRecDepth 100000
/-! DL part 10: list comprehensions as expressions, as values of an assignment -/
namespace DL
open PySem PySem.Spec PyProof.Rows L2
section
variable {X : Cx} {EX : EXT} {scope : Scope} {N : List Str} {caps : List Nat} {nT : Nat} {elt tg iter : Expr} {ifs : List Expr} {pos spos py : Pos} {f : DI} {t : TgD} {cond : DT} {fe : DE} {y : Str}
theorem gone {pins : List (Addr × Obj)} {σ : L2.St} {H H1 : Hp} {s s1 : Shared} {C : Addr} {h' : Heap} (I : Inv X pins σ H s) (hC : s.heap.objs.size ≤ C) {σ1 : L2.St} (I1 : Inv X pins σ1 H1 s1) (hn : H1 C = none) (hs : Heap.SameBut C s1.heap h') : Inv X pins σ1 H1 { s1 with heap := h' } := by
  refine I1.turned (t' := s1.toks) (fun b o hb e => (hs.2 b hb).trans e) hn ?_ (.inr (Nat.le_trans I.sz hC)) ?_ ?_
  · intro z
    exact absurd (Nat.lt_of_lt_of_le I.lt (z ▸ hC)) (Nat.lt_irrefl _)
  · intro x c hx z
    obtain ⟨v, o, ho, _⟩ := I.cell x c hx
    exact absurd (Nat.lt_of_lt_of_le (Heap.lt_size ho) (z ▸ hC)) (Nat.lt_irrefl _)
  · intro p hp z
    obtain ⟨h1, _⟩ := I.pin p hp
    exact absurd (Nat.lt_of_lt_of_le (Heap.lt_size h1) (z ▸ hC)) (Nat.lt_irrefl _)
/-- what the iterator leaves -/
noncomputable def LcR (X : Cx) (EX : EXT) (σ : L2.St) (caps : List Nat) (nT : Nat) (t : TgD) (cond : DT) (fe : DE) (Q : VK) (J : It) (H1 : Hp) : Prop :=
  ∃ O1 ρ q st1, ItD X.K J O1 H1 q ∧ WR X.K O1 H1 st1 ∧ REnv X.K O1 H1 ρ σ ∧ Run X.K EX O1 H1 (compD q.2 t cond fe q.1 (capEv ρ caps nT) st1 []) (New X.K Q)
theorem lc_wi {σ : L2.St} {H : Hp} {Q : VK} (h : tDF X.K EX (dComp caps nT f t cond fe) σ H Q) : wiD X.K EX f σ H (LcR X EX σ caps nT t cond fe Q) := by
  obtain ⟨O, ρ, st, W, E, R⟩ := h
  exact ⟨O, ρ, st, W, E, R.bind.mono fun q st1 O1 H1 k1 W1 R1 J hJ => ⟨O1, ρ, q, st1, hJ, W1, E.mono k1, R1⟩⟩
theorem clos_ok {pins : List (Addr × Obj)} {σ : L2.St} {H : Hp} {s : Shared} (B : Blk X.env.scope scope X.N N caps nT) (I : Inv X pins σ H s) : closureFor scope X.env = pure (clOf X.env scope.names []) :=
  closureFor_of fun y hy hk => I.ok.has y.1 (B.free y hy hk)
theorem pdf_lc (hc : X.calm = true) (B : BlkOk X scope N caps nT tg elt ifs t cond fe) (hi : PID X EX tg iter f) (hs : ∀ x, foldedSetIterable iter X.env x = pure x := by intro _; rfl) : PDF X EX (.ListComp elt [⟨tg, iter, ifs, 0⟩] scope pos) (dComp caps nT f t cond fe) := by
  intro pins s σ H Q I h
  rw [eval_ListComp]
  refine wpAny_comprehension_free (use := none) rfl hs (clos_ok B.blk I) B.blk.kind B.blk.names (wpAny_mono (hi pins s σ H _ I (lc_wi h)) (fun xv s₁ h₁ => wpAny_mono h₁ (fun itv s₂ h₂ => ?_) fun _ _ e => e) fun _ _ e => e)
  obtain ⟨it, fp, tn, J, H', rfl, I', T, h0, hf, O1, ρ, q, st1, hJ, W1, E1, R1⟩ := h₂
  refine lc_block (RR := fun acc C => compPost (model X.prog X.w) X.A X.xe none (EP X pins σ Q) acc C) hc B I' T h0 hf hJ W1 E1 R1 ?_
  intro p C H2 vs s' m hC hn hns hpC I2 hq
  refine ⟨m, hns, fun h' hsb => ⟨.ref p, _, gone I' hC I2 (by rw [upd_ne (Ne.symm hpC)]; exact hn) hsb, rfl, hq⟩⟩
/-- name = [..], stored ahead of the block's names being let go -/
theorem ps_lc (i : Nat) (hc : X.calm = true) (B : BlkOk X scope N caps nT tg elt ifs t cond fe) (hi : PID X EX tg iter f) (hN : X.N.Nodup) (hy : X.N[i]? = some y) (hx : Loc X.env.scope y)
    (hsw : swapsWith (.ListComp elt [⟨tg, iter, ifs, 0⟩] scope pos) (some (.Name y py)) spos.line X.env = pure true)
    (hs : ∀ x, foldedSetIterable iter X.env x = pure x := by intro _; rfl) (hfn : X.fn y = true ∨ X.env.scope.names.lookup y = some .local := by first | exact .inl rfl | exact .inr rfl | assumption) :
    PS X (.Assign [.Name y py] (.ListComp elt [⟨tg, iter, ifs, 0⟩] scope pos) spos) (fun Dn σ H => tDF X.K EX (dComp caps nT f t cond fe) σ H fun v H' => Dn.nx (σ.set i (some v)) H') := by
  intro pins s σ H Dn I h
  rw [exec_Assign_Name_used _ _ _ _ hsw]
  refine wpAny_bind (wpAny_standAt (wpAny_bind ?_))
  show wpAny _ X.A (do let _ ← comprehension (.ListComp elt [⟨tg, iter, ifs, 0⟩] scope pos) scope X.env _ (newList []) false (eval iter X.env) (some (assign (.Name y py) X.env))) _ _ s
  refine wpAny_bind (wpAny_mono (wpAny_comprehension_free (use := some (assign (.Name y py) X.env)) (Q := fun _ s' => SP X pins Dn .next s') rfl hs (clos_ok B.blk I) B.blk.kind B.blk.names
    (wpAny_mono (hi pins s σ H _ I (lc_wi h)) (fun xv s₁ h₁ => wpAny_mono h₁ (fun itv s₂ h₂ => ?_) fun _ _ e => e) fun _ _ e => e)) (fun _ s' hq => wpAny_pure (wpAny_pure hq)) fun _ _ e => e)
  obtain ⟨it, fp, tn, J, H', rfl, I', T, h0, hf, O1, ρ, q, st1, hJ, W1, E1, R1⟩ := h₂
  refine lc_block (RR := fun acc C => compPost (model X.prog X.w) X.A X.xe (some (assign (.Name y py) X.env)) (fun _ s' => SP X pins Dn .next s') acc C) hc B I' T h0 hf hJ W1 E1 R1 ?_
  intro p C H2 vs s' m hC hn hns hpC I2 hq
  show wpAny _ X.A (assign (.Name y py) X.env (.ref p)) _ _ _
  refine wpAny_assign_Name (store_ok2 (v := .ref p) I2 hN hy hx rfl (fun s'' I3 hsb => ?_) hfn)
  obtain ⟨a, sb, ha⟩ := hsb
  have hne : C ≠ a := by
    intro z
    rcases ha with ha | ha
    · exact absurd (Nat.lt_of_lt_of_le I'.lt (ha ▸ z ▸ hC)) (Nat.lt_irrefl _)
    · obtain ⟨v, o, ho, _⟩ := I'.cell _ _ ha
      exact absurd (Nat.lt_of_lt_of_le (Heap.lt_size ho) (z ▸ hC)) (Nat.lt_irrefl _)
  exact ⟨m, hns.at' fun o e => (sb.2 C hne).trans e, fun h' hsb => ⟨_, _, gone I' hC I3 (by rw [upd_ne (Ne.symm hpC)]; exact hn) hsb, hq⟩⟩
theorem pd_setLC (i : Nat) (hc : X.calm = true) (B : BlkOk X scope N caps nT tg elt ifs t cond fe) (hi : PID X EX tg iter f) (hN : X.N.Nodup) (hy : X.N[i]? = some y) (hx : Loc X.env.scope y)
    (hsw : swapsWith (.ListComp elt [⟨tg, iter, ifs, 0⟩] scope pos) (some (.Name y py)) spos.line X.env = pure true := by rfl)
    (hs : ∀ x, foldedSetIterable iter X.env x = pure x := by intro _; rfl) (hfn : X.fn y = true ∨ X.env.scope.names.lookup y = some .local := by first | exact .inl rfl | exact .inr rfl | assumption) :
    PDs X EX (.Assign [.Name y py] (.ListComp elt [⟨tg, iter, ifs, 0⟩] scope pos) spos) (sSet i (dF (dComp caps nT f t cond fe))) := by
  refine PS.mono (ps_lc i hc B hi hN hy hx hsw hs hfn) ?_
  rintro Dn σ H ⟨O, ρ, st, W, E, R⟩
  refine ⟨O, ρ, st, W, E, ?_⟩
  refine (R.to.bind).mono fun ds st1 O1 H1 k1 W1 R1 p vs r hp => ?_
  have R2 := R1 O1 (upd H1 p (.lst vs)) (Keep.laid hp) (W1.laid hp)
  refine R2 O1 (upd H1 p (.lst vs)) _ Keep.refl (W1.laid hp) ((E.mono (k1.trans (Keep.laid hp))).set (Rep.lst_i.mpr ⟨p, vs, rfl, fun hm => ?_, upd_same, Reps.mono (Keep.laid hp) _ _ r⟩))
  obtain ⟨j, hj⟩ := List.mem_iff_getElem?.mp hm
  exact W1.ne hj hp rfl
end
end DL

end
/-! DLb -/
section
set_option Elab.async false
set_option linter.all false
set_option maxRecDepth 100000
/-! DL part 11: methods of lists and texts, items stored, repeats -/
namespace HT
open PySem PyProof.Rows
section
open PySem.AutoSeq1 (wpAny_loadPart')
theorem noFill_tuple_mul : fillsNumberSlot (.type "tuple") "mul" = pure false :=
  PySem.fillsNumberSlot_seq (id := "tuple.__mul__") (r := some (.builtin "tuple.__rmul__")) F.slot_tuple_mul.lookup (by decide +kernel) F.slot_tuple_rmul.lookup (by decide +kernel)
theorem repeat_tuple : seqRepeat? (.type "tuple") = pure (some (.builtin "tuple.__mul__")) := by
  unfold seqRepeat?
  rw [PySem.seqSlot_of (T := "tuple") (name := "__mul__") (id := "tuple.__mul__") F.slot_tuple_mul.lookup (by decide +kernel), PySem.seqSlot_of (T := "tuple") (name := "__rmul__") (id := "tuple.__rmul__") F.slot_tuple_rmul.lookup (by decide +kernel)]
  rfl
theorem int_rmul_tuple (a : Int) (t : Tok) (l : Addr) (items : Array Value) (n : Nat) (dd : Option Addr) (sl : Array (Option Value)) :
    Meets (Builtin.«int.__rmul__» ⟨[.int a t, .ref l], []⟩) (fun _ R s => s.heap.get? l = some { cls := .type "tuple", dict := dd, data := .seq items n, slots := sl } ∧ R (.ok (.ret Value.notImplemented)) s) :=
  .of_wp fun prog w A R s h => by obtain ⟨hp, g, d, tk, os⟩ := s; obtain ⟨hl, h⟩ := h; wp_walk using wpAny_loadPart' hl; exact ⟨_, rfl, h⟩
theorem tuple_mulW1 (l : Addr) (items : Array Value) (n : Nat) (dd : Option Addr) (sl : Array (Option Value)) (k : Int) (u : Tok) (hf : ¬ (decide (k < -(2 ^ 63)) || decide (k ≥ 2 ^ 63)) = true) (hc : (items.isEmpty || k == 1) = true) :
    Meets (Builtin.«tuple.__mul__» ⟨[.ref l, .int k u], []⟩) (fun _ R s => s.heap.get? l = some { cls := .type "tuple", dict := dd, data := .seq items n, slots := sl } ∧ R (.ok (.ret (.ref l))) s) :=
  .of_wp fun prog w A R s h => by obtain ⟨hp, g, d, tk, os⟩ := s; obtain ⟨hl, h⟩ := h; have f1 := AutoSeq1.idx_int; wp_walk using wpAny_loadPart' hl; refine wpAny_ite_false (decide_eq_false hf) ?_; wp_walk using wpAny_loadPart' hl; exact ⟨_, rfl, h⟩
theorem tuple_mulW2 (l : Addr) (items : Array Value) (n : Nat) (dd : Option Addr) (sl : Array (Option Value)) (k : Int) (u : Tok) (hf : ¬ (decide (k < -(2 ^ 63)) || decide (k ≥ 2 ^ 63)) = true) (hc : ¬ (items.isEmpty || k == 1) = true) (hc2 : (decide (k ≤ 0) || items.isEmpty) = true) :
    Meets (Builtin.«tuple.__mul__» ⟨[.ref l, .int k u], []⟩) (fun _ R s => s.heap.get? l = some { cls := .type "tuple", dict := dd, data := .seq items n, slots := sl } ∧ R (.ok (.ret (.ref s.heap.objs.size))) { s with heap := s.heap.push { cls := .type "tuple", data := .seq #[] } }) :=
  .of_wp fun prog w A R s h => by obtain ⟨hp, g, d, tk, os⟩ := s; obtain ⟨hl, h⟩ := h; have f1 := AutoSeq1.idx_int; wp_walk using wpAny_loadPart' hl; refine wpAny_ite_false (decide_eq_false hf) ?_; wp_walk using wpAny_loadPart' hl; exact ⟨_, rfl, h⟩
theorem tuple_mulW3 (l : Addr) (items : Array Value) (n : Nat) (dd : Option Addr) (sl : Array (Option Value)) (k : Int) (u : Tok) (hf : ¬ (decide (k < -(2 ^ 63)) || decide (k ≥ 2 ^ 63)) = true) (hc : ¬ (items.isEmpty || k == 1) = true) (hc2 : ¬ (decide (k ≤ 0) || items.isEmpty) = true)
    (hc3 : ¬ (items.size : Int) * k > (2 ^ 63 - 1) / 8) (hc4 : ¬ Builtin.Tuple.tupleTooMany ((items.size : Int) * k) = true) (hsz : ((List.replicate k.toNat items).foldl (· ++ ·) #[]).size ≤ sizeLine) :
    Meets (Builtin.«tuple.__mul__» ⟨[.ref l, .int k u], []⟩) (fun _ R s => s.heap.get? l = some { cls := .type "tuple", dict := dd, data := .seq items n, slots := sl } ∧ R (.ok (.ret (.ref s.heap.objs.size))) { s with heap := s.heap.push { cls := .type "tuple", data := .seq ((List.replicate k.toNat items).foldl (· ++ ·) #[]) } }) :=
  .of_wp fun prog w A R s h => by obtain ⟨hp, g, d, tk, os⟩ := s; obtain ⟨hl, h⟩ := h; have f1 := AutoSeq1.idx_int; wp_walk using wpAny_loadPart' hl; refine wpAny_ite_false (decide_eq_false hf) ?_; wp_walk using wpAny_loadPart' hl; refine wpAny_ite_false (decide_eq_false hc3) ?_; wp_walk using wpAny_loadPart' hl; exact ⟨_, rfl, h⟩
end
end HT

namespace DL
open PySem PySem.Spec PyProof.Rows L2
section
variable {X : Cx} {EX : EXT} {a b c e o : Expr} {fa fb fc fo : DE} {pos p apos : Pos}
/-! ### repeats -/
noncomputable def repL (xs : List D) (k : Nat) : List D := (List.replicate k xs).flatten
noncomputable def mul2D : D → D → Sto → Out D
  | .tup xs, .int k, st => if -1000 ≤ k ∧ k ≤ 1000 ∧ xs.length ≤ 10 then .ok (.tup (repL xs k.toNat)) st else .bad
  | .str x, .int k, st => if -1000 ≤ k ∧ k ≤ 1000 ∧ x.length ≤ 10 then .ok (.str (PySem.Txt.mul x k)) st else .bad
  | a, b, st => mulD a b st
theorem mul_tup {pins : List (Addr × Obj)} {σ : L2.St} {H : Hp} {s : Shared} {O : List Addr} {st : Sto} {xs : List D} {l : Addr} {vs : List V} {k : Int} {t : Tok} {Q : VK} (I : Inv X pins σ H s) (W : WR X.K O H st) (q : H l = some (.tup vs)) (r : Reps X.K O H xs vs) (hk : -1000 ≤ k ∧ k ≤ 1000 ∧ xs.length ≤ 10)
    (R : Run X.K EX O H (.ok (.tup (repL xs k.toNat)) st) (Val X.K Q)) : wpAny (model X.prog X.w) X.A (binaryOp .Mult (.ref l) (.int k t)) (EP X pins σ Q) X.xe s := by
  obtain ⟨its, hv, ht, hz⟩ := I.tuple (SqT.of q)
  obtain ⟨⟨cls, dd, data, sl⟩, ho, hc, n, hd⟩ := id ht
  simp only at hc hd
  subst hc hd
  have lk : its.length ≤ 10 := by rw [← hv.length, ← r.length]; exact hk.2.2
  have hf : ¬ (decide (k < -(2 ^ 63)) || decide (k ≥ 2 ^ 63)) = true := by
    rw [Bool.or_eq_true, not_or]
    exact ⟨fun h => by have := of_decide_eq_true h; omega, fun h => by have := of_decide_eq_true h; omega⟩
  have fold : (List.replicate k.toNat its.toArray).foldl (· ++ ·) #[] = (List.replicate k.toNat its).flatten.toArray := by
    have := foldl_rep its k.toNat []
    rw [List.nil_append] at this
    exact this
  refine wpAny_binaryOp_repeat_ref (T := "tuple") (U := "int") (by decide) ⟨_, ho, rfl⟩ (fun s' => typeIs_int s' k t) HT.noFill_tuple_mul F.fills_int_mul F.slot_int_rmul HT.repeat_tuple F.slot_int_index.lookup
    (call_meets F.slot_int_rmul (typeIs_int s k t) F.entry_int_rmul (F.args_int_rmul_2 _ _) (HT.int_rmul_tuple k t l its.toArray n dd sl)
      ⟨ho, rfl, ⟨_, ho, rfl⟩, ?_⟩)
  by_cases h1 : (its.toArray.isEmpty || k == 1) = true
  · refine call_meets F.slot_tuple_mul ⟨_, ho, rfl⟩ F.entry_tuple_mul (F.args_tuple_mul_2 _ _) (HT.tuple_mulW1 l its.toArray n dd sl k t hf h1) ⟨ho, ?_⟩
    have e : repL xs k.toNat = xs := by
      rw [Bool.or_eq_true] at h1
      rcases h1 with h1 | h1
      · have h2 : its = [] := by simpa using h1
        have h3 : xs = [] := by
          have := r.length
          rw [hv.length, h2] at this
          exact List.length_eq_zero_iff.mp this
        subst h3
        unfold repL
        induction k.toNat with
        | zero => rfl
        | succ m ih => rw [List.replicate_succ, List.flatten_cons, ih]; rfl
      · have h2 : k = 1 := by simpa using h1
        subst h2
        simp [repL]
    rw [e] at R
    exact ⟨.ref l, H, I, rfl, Run.now (k := Val X.K Q) R W _ (Rep.tup_i.mpr ⟨l, vs, rfl, q, r⟩)⟩
  · by_cases h2 : (decide (k ≤ 0) || its.toArray.isEmpty) = true
    · refine call_meets F.slot_tuple_mul ⟨_, ho, rfl⟩ F.entry_tuple_mul (F.args_tuple_mul_2 _ _) (HT.tuple_mulW2 l its.toArray n dd sl k t hf h1 h2) ⟨ho, ?_⟩
      have e : k.toNat = 0 := by
        rw [Bool.or_eq_true] at h2 h1
        rcases h2 with h2 | h2
        · have := of_decide_eq_true h2; omega
        · exact absurd (.inl h2) h1
      have hp := I.hok.fresh (Nat.le_refl s.heap.objs.size)
      rw [e] at R
      refine ⟨.ref s.heap.objs.size, _, I.laid (t' := s.toks) (o := .tup []) (fun b ob q => Heap.get?_push_of_some _ q) (Nat.le_refl _) ⟨by decide, [], .nil, IsTup.new _ _⟩, rfl, ?_⟩
      exact new_tup (xs := repL xs 0) W (Reps.nil_i.mpr rfl) hp R
    · have hk0 : 0 < k := by
        rw [Bool.or_eq_true, not_or] at h2
        have := of_decide_eq_false (Bool.eq_false_iff.mpr h2.1)
        omega
      have hm : (its.toArray.size : Int) * k ≤ 10000 := by
        have h3 : (its.toArray.size : Int) ≤ 10 := by rw [List.size_toArray]; omega
        have h4 : (its.toArray.size : Int) * k ≤ 10 * k := Int.mul_le_mul_of_nonneg_right h3 (by omega)
        omega
      have hlen : ((List.replicate k.toNat its).flatten).length ≤ 10000 := by
        rw [len_rep]
        have h3 : k.toNat * its.length ≤ 1000 * 10 := Nat.mul_le_mul (by omega) lk
        omega
      have hbig : (10000 : Nat) ≤ sizeLine := small_le
      refine call_meets F.slot_tuple_mul ⟨_, ho, rfl⟩ F.entry_tuple_mul (F.args_tuple_mul_2 _ _) (HT.tuple_mulW3 l its.toArray n dd sl k t hf h1 h2 (by omega) (by
          unfold Builtin.Tuple.tupleTooMany
          intro h
          have := of_decide_eq_true h
          omega) (by rw [fold, List.size_toArray]; omega)) ⟨ho, ?_⟩
      have hp := I.hok.fresh (Nat.le_refl s.heap.objs.size)
      rw [fold]
      refine ⟨.ref s.heap.objs.size, _, I.laid (t' := s.toks) (o := .tup (List.replicate k.toNat vs).flatten) (fun b ob q => Heap.get?_push_of_some _ q) (Nat.le_refl _) ⟨?_, _, hv.rep k.toNat, IsTup.new _ _⟩, rfl, ?_⟩
      · rw [len_rep, hv.length, ← len_rep]; omega
      · exact new_tup W (r.rep k.toNat) hp R
theorem op_mul2D : OpD X EX (binaryOp .Mult) mul2D := by
  intro pins s σ H x y v u Q I rx ry h
  obtain ⟨O, a, b, st, W, ra, rb, R⟩ := h
  have other : Run X.K EX O H (mulD a b st) (Val X.K Q) → wpAny (model X.prog X.w) X.A (binaryOp .Mult v u) (EP X pins σ Q) X.xe s := fun R => op_mulD pins s σ H x y v u Q I rx ry ⟨O, a, b, st, W, ra, rb, R⟩
  cases a <;> cases b <;> first | exact other R | skip
  case tup.int xs k =>
    dsimp only [mul2D] at R
    by_cases hk : -1000 ≤ k ∧ k ≤ 1000 ∧ xs.length ≤ 10
    · rw [if_pos hk] at R
      rw [Rep.tup_i] at ra
      rw [Rep.int_i] at rb
      subst rb
      obtain ⟨l, vs, rfl, q, r⟩ := ra
      cases rx
      obtain ⟨t, rfl⟩ := ry
      exact mul_tup I W q r hk R
    · rw [if_neg hk] at R; exact R.elim
  case str.int z k =>
    dsimp only [mul2D] at R
    by_cases hk : -1000 ≤ k ∧ k ≤ 1000 ∧ z.length ≤ 10
    · rw [if_pos hk] at R
      rw [Rep.str_i] at ra
      rw [Rep.int_i] at rb
      subst ra rb
      obtain ⟨t', rfl⟩ := rx
      obtain ⟨t, rfl⟩ := ry
      exact SB.mul (mulOk_of 10 1000 hk.2.2 hk.2.1 (by omega) (by decide) (by decide)) fun t2 k2 => ⟨.str (PySem.Txt.mul z k), H, I.tok k2, ⟨t2, rfl⟩, Run.now (k := Val X.K Q) R W _ (Rep.str_i.mpr rfl)⟩
    · rw [if_neg hk] at R; exact R.elim
end
end DL

end
/-! DLz -/
section
set_option Elab.async false
set_option linter.all false
set_option maxRecDepth 100000
/-! DL part 12: zip of two tuples, the pair bound to a name -/
namespace HT
open PySem PyProof.Rows
section
variable {prog : Program} {w : World} {A : Around} {E : Value → Shared → Prop} {s : Shared}
/-- the zip's record: none, or a tuple handed out -/
noncomputable abbrev ZipRec (h : Heap) (z TI TO : Addr) (f0 f1 : Value) : Prop :=
  h.get? z = some { cls := .type "zip", dict := none, data := .fields #[f0, f1, .bool false, .ref TI, .ref TO], slots := #[] }
noncomputable def ZipAt (h : Heap) (z TI TO : Addr) : Prop := ∃ f0 b, (f0 = .none ∨ ∃ T : Int, f0 = rawInt T) ∧ ZipRec h z TI TO f0 (.bool b)
end
end HT

end
/-! DLy -/
section
set_option Elab.async false
set_option linter.all false
set_option maxRecDepth 100000
/-! DL part 13: for pair in zip(t, u) -/
namespace DL
open PySem PySem.Spec PyProof.Rows L2
/-- t and u, item by item, new pairs -/
noncomputable def Itz (K : PySem.W.Frag) (a b : Addr) : It :=
  ⟨fun i H => ∃ xs ys x y, SqT K H a xs ∧ SqT K H b ys ∧ xs[i]? = some x ∧ ys[i]? = some y,
   fun i H v H' => ∃ p x y, H p = none ∧ v = .ref p ∧ H' = upd H p (.tup [x, y]) ∧ (∀ xs, SqT K H a xs → xs[i]? = some x) ∧ ∀ ys, SqT K H b ys → ys[i]? = some y,
   fun i H => ∃ xs ys, SqT K H a xs ∧ SqT K H b ys ∧ (xs.length ≤ i ∨ ys.length ≤ i)⟩
/-- the zip's records apart -/
structure ZAp (z TI TO i1 i2 : Addr) : Prop where
  TIz : TI ≠ z
  TOz : TO ≠ z
  i1z : i1 ≠ z
  i2z : i2 ≠ z
  TITO : TI ≠ TO
  TIi1 : TI ≠ i1
  TIi2 : TI ≠ i2
  TOi1 : TO ≠ i1
  TOi2 : TO ≠ i2
  i12 : i1 ≠ i2
end DL

end
/-! DLx -/
section
set_option Elab.async false
set_option linter.all false
set_option maxRecDepth 100000
/-! DL part 14: zip made; methods of lists and texts; items stored -/
namespace HT
open PySem PyProof.Rows
noncomputable abbrev zT1 (h : Heap) (l1 : Addr) : Heap := h.push { cls := .type "tuple_iterator", data := .fields #[.ref l1, .int 0 0] }
noncomputable abbrev zT2 (h : Heap) (l1 l2 : Addr) : Heap := (zT1 h l1).push { cls := .type "tuple_iterator", data := .fields #[.ref l2, .int 0 0] }
noncomputable abbrev zT3 (h : Heap) (l1 l2 : Addr) : Heap := (zT2 h l1 l2).push { cls := .type "tuple", data := .seq #[.ref h.objs.size, .ref (zT1 h l1).objs.size] }
noncomputable abbrev zT4 (h : Heap) (l1 l2 : Addr) : Heap := (zT3 h l1 l2).push { cls := .type "tuple", data := .seq #[.none, .none] }
noncomputable abbrev zT5 (h : Heap) (l1 l2 : Addr) : Heap := (zT4 h l1 l2).push { cls := .type "zip", data := .fields #[.none, .bool false, .bool false, .ref (zT2 h l1 l2).objs.size, .ref (zT3 h l1 l2).objs.size] }
section
variable {prog : Program} {w : World} {A : Around} {E : Value → Shared → Prop} {s : Shared}
end
end HT
namespace DL
open PySem PySem.Spec PyProof.Rows L2
section
variable {X : Cx} {EX : EXT} {a b e o tg : Expr} {fa fb fo : DE} {g : DA} {pos p px apos cpos : Pos} {x : Str}
noncomputable def iZip (K : PySem.W.Frag) (ta : TA) : TI := fun σ H R => ta σ H fun vs H1 => ∃ a b, vs = [.ref a, .ref b] ∧ (∃ xs, SqT K H1 a xs) ∧ (∃ ys, SqT K H1 b ys) ∧ R (Itz K a b) H1
/-- the pairs of two tuples -/
noncomputable def dZip (g : DA) : DI := fun ρ st => (g ρ st).bind fun ds st1 => match ds with
  | [.tup xs, .tup ys] => .ok ((xs.zip ys).map (fun q => D.tup [q.1, q.2]), fun _ => True) st1
  | _ => .bad
/-! ### methods of a list of the store -/
noncomputable def dAppend (fo fa : DE) : DE := fun ρ st => (fo ρ st).bind fun d st1 => match d with
  | .res i => match st1[i]? with
    | some (.lst _) => (fa ρ st1).bind fun v st2 => match st2[i]? with
      | some (.lst xs) => if xs.length < small then .ok .non (st2.set i (.lst (xs ++ [v]))) else .bad
      | _ => .bad
    | _ => .bad
  | _ => .bad
theorem res_lst {K : PySem.W.Frag} {O : List Addr} {H : Hp} {st : Sto} (W : WR K O H st) {i : Nat} {v : V} {xs : List D} (r : Rep K O H (.res i) v) (e : st[i]? = some (.lst xs)) : ∃ a vs, v = .ref a ∧ O[i]? = some a ∧ H a = some (.lst vs) ∧ Reps K O H xs vs := by
  rw [Rep.res_i] at r
  obtain ⟨a, rfl, q⟩ := r
  obtain ⟨vs, h1, h2⟩ := W.at_ _ _ _ q e
  exact ⟨a, vs, rfl, q, h1, h2⟩
theorem pd_append (ho : PD X EX o fo) (ha : PD X EX a fa) (hbase : attributeBase o "append" X.env (eval o X.env) = eval o X.env := by rfl)
    (hfew : ((backTo cpos (starEach [a] X.env)).all (fun x => !x.1) && (backToKw cpos (keywordEach [] X.env)).all (fun x => x.1.isSome)
      && decide ([a].length + ([] : List Keyword).length + (if ([] : List Keyword).isEmpty then 0 else 1) < 30)) = true := by rfl)
    (hline : (apos.endLine == cpos.line) = true := by rfl) (hs : starEach [a] X.env = (false, eval a X.env) :: starEach [] X.env := by rfl) (hplain : (backTo cpos (starEach [] X.env)).any (·.1) = false := by rfl) : PD X EX (.Call (.Attribute o "append" apos) [a] [] cpos) (dAppend fo fa) := by
  refine PE.mono (pe_bm PySem.F.plainAttrs_list PySem.F.slot_list_append PySem.F.type_list_append mt_append ho (pda_cons ha pda_nil hs) hbase hfew hline hs hplain) ?_
  rintro σ H Q ⟨O, ρ, st, W, E, R⟩
  refine ⟨O, ρ, st, W, E, R.bind.mono fun d st1 O1 H1 k1 W1 R1 v r => ?_⟩
  cases d with
  | res i =>
    dsimp only at R1
    cases e1 : st1[i]? with
    | none => rw [e1] at R1; exact R1.elim
    | some s1 =>
      rw [e1] at R1
      cases s1 with
      | ins C fs => exact R1.elim
      | dct kvs => exact R1.elim
      | dtt kvs => exact R1.elim
      | lst xs0 =>
        dsimp only at R1
        obtain ⟨pa, vs0, rfl, q0, h0, _⟩ := res_lst W1 r e1
        refine ⟨.inl ⟨rfl, _, SqL.of h0⟩, O1, ρ, st1, W1, E.mono k1, ?_⟩
        cases hfa : fa ρ st1 with
        | bad => rw [hfa] at R1; exact R1.elim
        | exc c st2 =>
          rw [hfa] at R1
          show Run X.K EX O1 H1 (dCons fa dNil ρ st1) _
          unfold dCons
          rw [hfa]
          exact R1
        | ok w st2 =>
          rw [hfa] at R1
          show Run X.K EX O1 H1 (dCons fa dNil ρ st1) _
          unfold dCons
          rw [hfa]
          intro O2 H2 k2 W2 ws rs
          obtain ⟨u, rfl, ru⟩ := Reps.one_of rs
          have R2 := Run.later R1 k2
          dsimp only [Out.bind] at R2
          cases e2 : st2[i]? with
          | none => rw [e2] at R2; exact R2.elim
          | some s2 =>
            rw [e2] at R2
            cases s2 with
            | ins C fs => exact R2.elim
            | dct kvs => exact R2.elim
            | dtt kvs => exact R2.elim
            | lst xs =>
              dsimp only at R2
              by_cases hl : xs.length < small
              · rw [if_pos hl] at R2
                obtain ⟨pa', vs, e3, q, h1, h2⟩ := res_lst W2 (Rep.mono k2 _ _ r) e2
                cases e3
                refine ⟨pa, vs, u, rfl, rfl, h1, by rw [← h2.length]; exact Nat.lt_of_lt_of_le hl small_le, ?_⟩
                exact R2 O2 _ (Keep.write W2 q) (W2.writeL q (h2.append (Reps.one ru))) _ (Rep.non_i.mpr rfl)
              · rw [if_neg hl] at R2; exact R2.elim
  | _ => exact R1.elim
noncomputable def dPop (fo : DE) : DE := fun ρ st => (fo ρ st).bind fun d st1 => match d with
  | .res i => match st1[i]? with
    | some (.lst xs) => match xs[xs.length - 1]? with
      | some v => .ok v (st1.set i (.lst xs.dropLast))
      | none => .bad
    | _ => .bad
  | _ => .bad
theorem Reps.dropLast {K : PySem.W.Frag} {O : List Addr} {H : Hp} {ds : List D} {vs : List V} (r : Reps K O H ds vs) : Reps K O H ds.dropLast vs.dropLast := by
  rw [List.dropLast_eq_take, List.dropLast_eq_take, r.length]
  exact r.take _
/-- sep.join(texts) -/
noncomputable def strsOf : List D → Option (List Str)
  | [] => some []
  | .str x :: r => (strsOf r).map (x :: ·)
  | _ :: _ => none
noncomputable def joinD : D → List D → Sto → Out D
  | .str z, [d], st => match itemsOf st d with
    | some xs => match strsOf xs with
      | some ys => if (ys.map (·.length)).sum + ys.length * z.length ≤ small then .ok (.str (PySem.Txt.join z ys)) st else .bad
      | none => .bad
    | none => .bad
  | _, _, _ => .bad
noncomputable def dBM (g : D → List D → Sto → Out D) (fo : DE) (f : DA) : DE := fun ρ st => (fo ρ st).bind fun d st1 => match d with
  | .str z => (f ρ st1).bind fun ds st2 => g (.str z) ds st2
  | _ => .bad
end
end DL

end
/-! DLw -/
section
set_option Elab.async false
set_option linter.all false
set_option maxRecDepth 100000
/-! DL part 15: isinstance of the built-in types, the minus sign, a def by its name -/
namespace DL
open PySem PySem.Spec PyProof.Rows L2
noncomputable def tyName : D → Option String
  | .non => some "NoneType"
  | .bl _ => some "bool"
  | .int _ => some "int"
  | .str _ => some "str"
  | .tup _ => some "tuple"
  | .lst _ => some "list"
  | _ => none
noncomputable def subTy (t T : String) : Bool := t == T || (t == "bool" && T == "int")
noncomputable def tyNames : List String := ["NoneType", "bool", "int", "str", "tuple", "list"]
noncomputable def clNames : List String := ["bool", "int", "str", "tuple", "list"]
section
variable {X : Cx} {EX : EXT} {a b c e o : Expr} {fa fb fc fo : DE} {pos p pT apos : Pos}
noncomputable def dInst (T : String) (f : DE) : DE := fun ρ st => (f ρ st).bind fun d st1 => match tyName d with
  | some t => .ok (.bl (subTy t T)) st1
  | none => .bad
noncomputable def dNeg (f : DE) : DE := fun ρ st => (f ρ st).bind fun d st1 => match d with
  | .int i => .ok (.int (-i)) st1
  | _ => .bad
theorem pd_neg (ha : PD X EX a fa) : PD X EX (.UnaryOp .USub a pos) (dNeg fa) := by
  refine PE.mono (pe_un un_neg ha) ?_
  rintro σ H Q ⟨O, ρ, st, W, E, R⟩
  refine ⟨O, ρ, st, W, E, R.bind.mono fun d st1 O1 H1 k1 W1 R1 v r => ?_⟩
  cases d with
  | int i => exact ⟨i, Rep.int_i.mp r, Run.now (k := Val X.K Q) R1 W1 _ (Rep.int_i.mpr rfl)⟩
  | _ => exact R1.elim
end
/-- a def of the module: its promise and what a call asks -/
structure FnAt (P : Program) (w : World) (K : PySem.W.Frag) (mg : Str → Option Value) (base : Heap) (x : Str) (k : Nat) (F : FD) : Prop where
  ex : ∃ (f : Addr) (fd : FuncData) (ps : List Str), FnOk P w K mg base CX0 k f fd ps (spD K F) ∧ mg x = some (.ref f) ∧ PySem.W.keepIn K (.ref f) = true ∧ Binds K fd ps []
section
variable {X : Cx} {EX : EXT} {e : Expr} {es : List Expr} {pos p : Pos} {x : Str} {k j : Nat} {F : FD} {g : DA}
theorem pd_fn (h : FnAt X.prog X.w X.K X.mg X.base x j F) (hr : Room k X.A) (hj : j ≤ k) (hg : Gl X x) (ha : PDA X EX (e :: es) g)
    (hdb : (x == ("__debug__" : Str)) = false := by decide) (he : starEach (e :: es) X.env = (false, eval e X.env) :: starEach es X.env := by rfl) (hpl : (backTo pos (starEach es X.env)).any (·.1) = false := by rfl) :
    PD X EX (.Call (.Name x p) (e :: es) [] pos) (dCall F g) := by
  obtain ⟨f, fd, ps, G, hm, hk, hb⟩ := h.ex
  exact pd_call G (hr.mono hj) hg hm hk hb xe0 ha hdb he hpl
end
theorem fnAt {P : Program} {w : World} {K : PySem.W.Frag} {mg : Str → Option Value} {base : Heap} {x qual : Str} {st : Stmt} {f : Addr} {fd : FuncData} {N ps : List Str} {k : Nat} {g : DS} (F : Fun K x qual st f fd) (S : FnScope N ps (defScope st)) (hm : mg x = some (.ref f)) (hb : Binds K fd ps [])
    (hbody : ∀ (cdv : Value) (A : Around) (outer : List Env) (s : Shared) (H : Hp) (E : XK), Room k (A.deeper (envOfC qual (defScope st) s.heap.objs.size f cdv)) →
      PDS (cxOf CX0 P w K mg base N qual (defScope st) f cdv A outer s H E).nox EX0 (defBody st) g) : FnAt P w K mg base x (k + 1) (runF N.length ps.length g) :=
  ⟨f, fd, ps, fnD F S hbody, hm, F.kp, hb⟩
end DL

end
/-! DLv -/
section
set_option Elab.async false
set_option linter.all false
set_option maxRecDepth 100000
/-! ### all of truths, <= of texts -/
namespace HT
open PySem PyProof.Rows PyProof.Rows.LSm
section
variable {prog : Program} {w : World} {A : Around} {E : Value → Shared → Prop} {s : Shared} {l : Addr} {vs : List Value}
end
end HT
namespace DL
open PySem PySem.Spec PyProof.Rows L2
noncomputable def blsOf : List D → Option (List Bool)
  | [] => some []
  | .bl b :: ds => (blsOf ds).map (b :: ·)
  | _ => none
noncomputable def allD : List D → Sto → Out D
  | [.lst ds], st => match blsOf ds with
    | some bs => .ok (.bl (bs.all id)) st
    | none => .bad
  | _, _ => .bad
section
variable {X : Cx} {EX : EXT}
noncomputable def leX : D → D → Sto → Out D
  | .int a, .int b, st => .ok (.bl (decide (a ≤ b))) st
  | .str a, .str b, st => .ok (.bl (!(decide (b.cps.toList < a.cps.toList)))) st
  | _, _, _ => .bad
end
end DL

end
/-! DLu -/
section
set_option Elab.async false
set_option linter.all false
set_option maxRecDepth 100000
/-! ### the signs of a text, walked -/
namespace DL
open PySem PySem.Spec PyProof.Rows L2
noncomputable def Its (x : Str) : It := ⟨fun i _ => i < x.cps.size, fun i H v H' => H' = H ∧ ∃ c, x.cps[i]? = some c ∧ v = .str ⟨#[c]⟩, fun i _ => x.cps.size ≤ i⟩
noncomputable def iStr (tl : TE) : TI := fun σ H R => tl σ H fun v H1 => ∃ x : Str, v = .str x ∧ x.cps.all (· < 128) = true ∧ R (Its x) H1
section
variable {X : Cx} {EX : EXT} {tg e : Expr} {f : DE}
noncomputable def signs (x : Str) : List Str := x.cps.toList.map fun c => ⟨#[c]⟩
noncomputable def dSigns (f : DE) : DI := fun ρ st => (f ρ st).bind fun d st1 => match d with
  | .str x => if x.cps.all (· < 128) = true then .ok ((signs x).map D.str, fun _ => True) st1 else .bad
  | _ => .bad
end
end DL

end
/-! DLt -/
section
set_option Elab.async false
set_option linter.all false
set_option maxRecDepth 100000
/-! DL: slices of texts, o[i] = v, methods and classes by their names, what is never reached -/
namespace DL
open PySem PySem.Spec PyProof.Rows L2
/-! ### slices of texts -/
noncomputable def cutS : D → Option Int → Option Int → Sto → Out D
  | .str z, lo, hi, st => if z.length ≤ small then .ok (.str ⟨(cutL z.cps.toList lo hi).toArray⟩) st else .bad
  | _, _, _, _ => .bad
section
variable {X : Cx} {EX : EXT} {a b c e o i : Expr} {fa fb fc fo fi : DE} {pos p p2 apos : Pos} {ta tb : DT}
/-! ### o[i] = v, o a list of the store -/
noncomputable def sSetIx (fo fi fv : DE) : DS := fun ρ st => (fv ρ st).to fun v st1 => (fo ρ st1).to fun d st2 => (fi ρ st2).to fun i st3 => match d, i with
  | .res r, .int k => match st3[r]? with
    | some (.lst xs) => match ixN xs.length k with
      | some j => .nx ρ (st3.set r (.lst (xs.set j v)))
      | none => .bad
    | _ => .bad
  | _, _ => .bad
/-! ### what is never reached -/
noncomputable def sBad : DS := fun _ _ => .bad
end
/-! ### a method, a class, by names -/
structure MtAt (P : Program) (w : World) (K : PySem.W.Frag) (mg : Str → Option Value) (base : Heap) (C : Addr) (m : Str) (k : Nat) (F : FD) : Prop where
  ex : ∃ (f : Addr) (fd : FuncData) (ps : List Str), FnOk P w K mg base CX0 k f fd ps (spD K F) ∧ Meth K C m f ∧ Binds K fd ps []
structure MkAt (P : Program) (w : World) (K : PySem.W.Frag) (mg : Str → Option Value) (base : Heap) (x : Str) (C : Addr) (k : Nat) (F : FD) : Prop where
  ex : ∃ (f : Addr) (fd : FuncData) (ps : List Str), FnOk P w K mg base CX0 k f fd ps (spD K F) ∧ Mk K C f ∧ Binds K fd ps [] ∧ mg x = some (.ref C)
section
variable {X : Cx} {EX : EXT} {e o : Expr} {es : List Expr} {pos p apos : Pos} {x m : Str} {k j : Nat} {F : FD} {g : DA} {C : Addr} {fo : DE}
theorem pd_mt0 {pl : Sem Bool} (h : MtAt X.prog X.w X.K X.mg X.base C m j F) (c : Cls X.K C) (hr : Room k X.A) (hj : j ≤ k) (he : PD X EX o fo)
    (ht : eval (.Call (.Attribute o m apos) [] [] pos) X.env = (do
      let ov ← eval o X.env
      standAt apos.atName
      let (f, first) ← holding [ov] (getMethod ov m pl)
      callWith pos f first (backTo pos (starEach [] X.env)) (backToKw pos (keywordEach [] X.env))) := by rfl) :
    PD X EX (.Call (.Attribute o m apos) [] [] pos) (dMeth C m F fo dNil) := by
  obtain ⟨f, fd, ps, G, hm, hb⟩ := h.ex
  exact pd_meth0 he c hm G (hr.mono hj) hb xe0 ht
theorem pd_mk0 (h : MkAt X.prog X.w X.K X.mg X.base x C j F) (hr : Room k X.A) (hj : j + 1 ≤ k) (hg : Gl X x)
    (hdb : (x == ("__debug__" : Str)) = false := by decide) : PD X EX (.Call (.Name x p) [] [] pos) (dMake C F dNil) := by
  obtain ⟨f, fd, ps, G, hm, hb, hx⟩ := h.ex
  exact pd_make0 hm G (hr.mono hj) hg hx hb xe0 hdb
end
section
variable {P : Program} {w : World} {K : PySem.W.Frag} {mg : Str → Option Value} {base : Heap}
theorem mtAt {x qual : Str} {st : Stmt} {f C : Addr} {fd : FuncData} {N ps : List Str} {k : Nat} {g : DS} (F : Fun K x qual st f fd) (S : FnScope N ps (defScope st)) (hm : Meth K C x f) (hb : Binds K fd ps [])
    (hbody : ∀ (cdv : Value) (A : Around) (outer : List Env) (s : Shared) (H : Hp) (E : XK), Room k (A.deeper (envOfC qual (defScope st) s.heap.objs.size f cdv)) →
      PDS (cxOf CX0 P w K mg base N qual (defScope st) f cdv A outer s H E).nox EX0 (defBody st) g) : MtAt P w K mg base C x (k + 1) (runF N.length ps.length g) :=
  ⟨f, fd, ps, fnD F S hbody, hm, hb⟩
theorem mkAt {x qual cn : Str} {st : Stmt} {f C : Addr} {fd : FuncData} {N ps : List Str} {k : Nat} {g : DS} (F : Fun K x qual st f fd) (S : FnScope N ps (defScope st)) (hm : Mk K C f) (hb : Binds K fd ps []) (hx : mg cn = some (.ref C))
    (hbody : ∀ (cdv : Value) (A : Around) (outer : List Env) (s : Shared) (H : Hp) (E : XK), Room k (A.deeper (envOfC qual (defScope st) s.heap.objs.size f cdv)) →
      PDS (cxOf CX0 P w K mg base N qual (defScope st) f cdv A outer s H E).nox EX0 (defBody st) g) : MkAt P w K mg base cn C (k + 1) (runF N.length ps.length g) :=
  ⟨f, fd, ps, fnD F S hbody, hm, hb, hx⟩
/-- a promise that holds wherever the classes stand -/
noncomputable def spA (K : PySem.W.Frag) (F : (Nat → Addr) → FD) : Sp := fun vs H Q E => ∀ cv, spD K (F cv) vs H Q E
theorem fnOk_spA {k : Nat} {f : Addr} {fd : FuncData} {ps : List Str} {F : (Nat → Addr) → FD} {cv : Nat → Addr} (G : FnOk P w K mg base CX0 k f fd ps (spD K (F cv))) : FnOk P w K mg base CX0 k f fd ps (spA K F) :=
  G.imp fun _ _ _ _ h => h cv
end
/-! ### how these are reckoned -/
section
variable {ρ : Ev} {st : Sto} {f fo fi fv : DE} {da : DA} {C : Addr} {x m : Str} {F : FD}
@[simp] theorem z_cutS (z : Str) (lo hi : Option Int) : cutS (.str z) lo hi st = if z.length ≤ small then .ok (.str ⟨(cutL z.cps.toList lo hi).toArray⟩) st else .bad := rfl
theorem z_meth : dMeth C m F fo da ρ st = (fo ρ st).bind fun d st1 => match insAt C st1 d with
  | some (_, fs) => if fs.lookup m = none then (da ρ st1).bind fun ds st2 => F (d :: ds) st2 else .bad
  | none => .bad := rfl
theorem z_fld : dFld C x fo ρ st = (fo ρ st).bind fun d st1 => match insAt C st1 d with
  | some (_, fs) => match fs.lookup x with
    | some v => .ok v st1
    | none => .bad
  | none => .bad := rfl
theorem z_make : dMake C F da ρ st = (da ρ st).bind fun ds st1 => (F (.res st1.length :: ds) (st1 ++ [.ins C []])).bind fun d st2 => (asNon d st2).bind fun _ st3 => .ok (.res st1.length) st3 := rfl
theorem z_sFldS : sFldS C x fo fv ρ st = (fv ρ st).to fun v st1 => (fo ρ st1).to fun d st2 => match insAt C st2 d with
  | some (i, fs) => if fs.length < 900 then .nx ρ (st2.set i (.ins C (putFD x v fs))) else .bad
  | none => .bad := rfl
theorem z_sFldF : sFldF C x fo da ρ st = (da ρ st).to fun vs st1 => (fo ρ (st1 ++ [.lst vs])).to fun d st2 => match insAt C st2 d with
  | some (i, fs) => if fs.length < 900 then .nx ρ (st2.set i (.ins C (putFD x (.res st1.length) fs))) else .bad
  | none => .bad := rfl
theorem z_sFldAdd : sFldAdd C x fo fv ρ st = (fo ρ st).to fun d st1 => match insAt C st1 d with
  | some (i, fs) => match fs.lookup x with
    | some (.int z) => (fv ρ st1).to fun v st2 => match v with
      | .int y => match insAt C st2 d with
        | some (j, fs') => if fs'.length < 900 then .nx ρ (st2.set j (.ins C (putFD x (.int (z + y)) fs'))) else .bad
        | none => .bad
      | _ => .bad
    | _ => .bad
  | none => .bad := rfl
end
end DL

end
/-! DLs -/
section
set_option Elab.async false
set_option linter.all false
set_option maxRecDepth 100000
/-! DL: for i, x in enumerate(xs) -/
namespace DL
open PySem PySem.Spec PyProof.Rows L2
/-- the list at a, new pairs of a number and an item -/
noncomputable def Ite (K : PySem.W.Frag) (a : Addr) : It :=
  ⟨fun i H => ∃ xs x, SqL K H a xs ∧ xs[i]? = some x,
   fun i H v H' => ∃ p x, H p = none ∧ v = .ref p ∧ H' = upd H p (.tup [.int (i : Int), x]) ∧ ∀ xs, SqL K H a xs → xs[i]? = some x,
   fun i H => ∃ xs, SqL K H a xs ∧ xs.length ≤ i⟩
theorem turn_enum {P : Program} {w : World} {K : PySem.W.Frag} {es : List Expr} {k : Nat} {pt : Pos} (a e it : Addr) (hei : e ≠ it) :
    Turn P w K (.Tuple es k pt) (Ite K a) [e, it] e (fun i h => (∃ old, IsEnum h e it ((i : Nat) : Int) old) ∧ h.IsListIter it a i) where
  mem := by simp
  obj := fun i h st c hc => by
    obtain ⟨⟨old, h1⟩, o4, h4, _, d4⟩ := st
    simp only [List.mem_cons, List.not_mem_nil, or_false] at hc
    rcases hc with rfl | rfl
    · exact ⟨_, h1, fun v z => by cases z⟩
    · exact ⟨_, h4, fun v z => by rw [d4] at z; cases z⟩
  keep := fun i h h' st k => by
    obtain ⟨⟨old, h1⟩, h4⟩ := st
    exact ⟨⟨old, k e (by simp) _ h1⟩, h4.at fun o q => k it (by simp) o q⟩
  item := by
    intro X hP hw hK hc i pins s σ H E I hf st hg
    subst hP hw hK
    obtain ⟨xs, vx, q1, g1⟩ := hg
    obtain ⟨its1, r1, p1, _⟩ := I.list q1
    obtain ⟨ux, e1, rx⟩ := r1.get g1
    obtain ⟨⟨old, hz⟩, h4⟩ := st
    have fz := hf e (by simp)
    have f1 := hf it (by simp)
    have heH : e < s.heap.objs.size := Heap.lt_size hz
    have hiH : it < s.heap.objs.size := by obtain ⟨o, ho, _⟩ := id h4; exact Heap.lt_size ho
    refine wpAny_pyNext_enum_item hz h4 p1.isList (by simpa using e1) hei fun h' z1 z2 z3 z4 z5 => ?_
    refine ⟨_, rfl, wpAny_letOwnedTupleGo_enum z1 fun h'' y1 y2 => ?_⟩
    replace y2 : Heap.SameBut e h' h'' := y2
    have up : ∀ c o, c ≠ e → h'.get? c = some o → h''.get? c = some o := fun c o hce ho => (y2.2 c hce).trans ho
    have z7 : ∀ c o, c ≠ e → c ≠ it → s.heap.get? c = some o → h''.get? c = some o := fun c o c1 c2 ho => up c o c1 (z5 c o c1 c2 ho)
    have hfr := I.hok.fresh (Nat.le_refl s.heap.objs.size)
    have hT : h''.get? s.heap.objs.size = some { cls := .type "tuple", data := .seq #[.int (i : Int) s.toks, ux] } := up _ _ (Nat.ne_of_gt heH) z3
    refine ⟨.ref s.heap.objs.size, upd H s.heap.objs.size (.tup [.int (i : Int), vx]), ?_, rfl, ⟨s.heap.objs.size, vx, hfr, rfl, rfl, fun zs hq => by rw [I.list_inj hq q1]; exact g1⟩, ⟨⟨ux, ?_⟩, (z2.at fun o q => up _ o (Ne.symm hei) q)⟩, fun c hc => ?_⟩
    · show Inv X pins σ _ { s with heap := h'', toks := s.toks + 1 }
      refine I.step (ch := [e, it]) (g' := s.gens) (t' := s.toks + 1) (d' := s.drawn) ?_ ?_ ?_ ?_ ?_ ?_ ?_ ?_ ?_ ?_ I.bare
      · intro c hc
        obtain ⟨k0, k1, k2, k3, k4, k5⟩ := hf c hc
        exact ⟨k3, k1, k4, k5⟩
      · intro c o k1 k2 k3 k4 k5
        simp only [List.mem_cons, List.not_mem_nil, or_false, not_or] at k3
        exact z7 c o k3.1 k3.2 k4
      · intro c o k1 k2 k3 k4 k5
        simp only [List.mem_cons, List.not_mem_nil, or_false, not_or] at k3
        exact ⟨o.slots, z7 c o k3.1 k3.2 k4⟩
      · intro c o k3 k4 k5
        rw [upd_ne (Nat.ne_of_lt (Heap.lt_size k4))]
        exact k5
      · intro c o k3 k4
        simp only [List.mem_cons, List.not_mem_nil, or_false, not_or] at k3
        exact ⟨o, z7 c o k3.1 k3.2 k4⟩
      · intro c ws k
        rw [upd_ne (ne_of_none k hfr)]; exact k
      · intro c ob ws k
        rw [upd_ne (ne_of_none k hfr)]; exact k
      · intro c ps k
        exact ⟨#[], by rw [upd_ne (ne_of_none k hfr), k]; simp⟩
      · intro m hm
        exact hm.at' fun o q => z7 _ o (Ne.symm fz.2.1) (Ne.symm f1.2.1) q
      · intro c o q
        by_cases hcc : c = s.heap.objs.size
        · subst hcc
          rw [upd_same] at q
          cases q
          exact ⟨(by show 2 ≤ sizeLine; rw [sizeLine_eq]; decide), [.int (i : Int) s.toks, ux], .cons ⟨_, rfl⟩ (.cons rx .nil), ⟨_, hT, rfl, _, rfl⟩⟩
        · rw [upd_ne hcc] at q
          refine (I.hok c o q).stay (fun d u hd k => ?_) (fun d k => by rw [upd_ne (ne_of_none k hfr)]; exact k) fun d ws k => by rw [upd_ne (ne_of_none k hfr)]; exact k
          have hHd : ∃ o', H d = some o' := by
            rcases hd with rfl | hd
            · exact ⟨o, q⟩
            · exact ⟨_, hd⟩
          obtain ⟨o', ho'⟩ := hHd
          exact z7 d u (ne_of_none ho' fz.1) (ne_of_none ho' f1.1) k
    · have ez : (((i + 1 : Nat) : Int)) = (i : Int) + 1 := by omega
      show IsEnum h'' e it (((i + 1 : Nat) : Int)) ux
      rw [ez]
      exact y1
    · have hcn := (hf c hc).1
      have hlt : c < s.heap.objs.size := by
        simp only [List.mem_cons, List.not_mem_nil, or_false] at hc
        rcases hc with rfl | rfl
        · exact heH
        · exact hiH
      rw [upd_ne (Nat.ne_of_lt hlt)]
      exact hcn
  done := by
    intro X hP hw hK hc i pins s σ H E I hf st hg
    subst hP hw hK
    obtain ⟨xs, q1, g⟩ := hg
    obtain ⟨its1, r1, p1, _⟩ := I.list q1
    obtain ⟨⟨old, hz⟩, h4⟩ := st
    obtain ⟨f0, f1, f2, f3, f4, f5⟩ := hf it (by simp)
    have hl := r1.length
    exact wpAny_pyNext_enum_end (I.ok.hd hc) hz h4 p1.isList (by simp; omega) fun h' eb => ⟨rfl, I.turned (t' := s.toks) (fun b o hb q => eb b o hb q) f0 f1 f3 f4 f5⟩
  self := fun _ _ _ _ _ st h => by
    obtain ⟨⟨old, hz⟩, _⟩ := st
    exact wpAny_pyIter_enum hz h
section
variable {X : Cx} {EX : EXT} {es : List Expr} {k : Nat} {pt p pos : Pos} {a : Expr} {f : DE}
noncomputable def iEnum (K : PySem.W.Frag) (tl : TA) : TI := fun σ H R => tl σ H fun vs H1 => ∃ a, vs = [.ref a] ∧ (∃ xs, SqL K H1 a xs) ∧ R (Ite K a) H1
theorem pi_enum {ta : TA} (hg : Gl X "enumerate") (hm : X.mg "enumerate" = none) (ha : PA X [a] ta) (hs : starEach [a] X.env = [(false, eval a X.env)] := by rfl) : PI X (.Tuple es k pt) (.Call (.Name "enumerate" p) [a] [] pos) (iEnum X.K ta) := by
  intro pins s σ H R I h
  refine Call_ (ld_blt I hg hm PyProof.Rows.boot_enumerate (PyProof.Rows.callWith_type1 (thn (ha pos pins s σ H _ I h) fun us s1 ⟨vs, H1, I1, r1, q1⟩ => ?_) (by rw [hs]; rfl) rfl))
  obtain ⟨pa, e, ⟨xs, h1⟩, q⟩ := q1
  subst e
  cases r1 with
  | cons r rr =>
    cases rr
    cases r
    obtain ⟨its1, v1, p1, _⟩ := I1.list h1
    refine call_enumerate_list p1.isList fun h' z1 z2 z3 z4 => ?_
    have I2 : Inv X pins σ H1 { s1 with heap := h' } := I1.kept (t' := s1.toks) z4
    have T := turn_enum (P := X.prog) (w := X.w) (K := X.K) (es := es) (k := k) (pt := pt) pa (s1.heap.objs.size + 1) s1.heap.objs.size (Nat.ne_of_gt (Nat.lt_succ_self _))
    have st : (∃ old, IsEnum h' (s1.heap.objs.size + 1) s1.heap.objs.size ((0 : Nat) : Int) old) ∧ h'.IsListIter s1.heap.objs.size pa 0 := ⟨⟨_, z1⟩, z2⟩
    refine T.self _ 0 _ _ _ st ?_
    refine ⟨_, _, _, _, H1, rfl, I2, T, st, fun c hc => ?_, q⟩
    have hle : s1.heap.objs.size ≤ c := by
      simp only [List.mem_cons, List.not_mem_nil, or_false] at hc
      rcases hc with rfl | rfl
      · exact Nat.le_succ _
      · exact Nat.le_refl _
    exact I1.fpOk hle (I1.hok.fresh hle)
/-- numbers and items of a list -/
noncomputable def enumL (n : Nat) : List D → List D
  | [] => []
  | x :: xs => .tup [.int (n : Int), x] :: enumL (n + 1) xs
theorem enumL_get : ∀ (xs : List D) (n i : Nat), (enumL n xs)[i]? = (xs[i]?).map fun x => D.tup [.int ((n + i : Nat) : Int), x]
  | [], n, i => by simp [enumL]
  | x :: xs, n, 0 => by simp [enumL]
  | x :: xs, n, i + 1 => by
    have h : n + 1 + i = n + (i + 1) := by omega
    simp [enumL, enumL_get xs (n + 1) i, h]
theorem enumL_len : ∀ (xs : List D) (n : Nat), (enumL n xs).length = xs.length
  | [], n => rfl
  | x :: xs, n => by simp [enumL, enumL_len xs (n + 1)]
noncomputable def dEnum (f : DE) : DI := fun ρ st => (f ρ st).bind fun d st1 => match seqL st1 d with
  | some xs => .ok (enumL 0 xs, fun st => seqL st d = some xs) st1
  | none => .bad
theorem pid_enum (hg : Gl X "enumerate") (hm : X.mg "enumerate" = none) (ha : PD X EX a f) (hs : starEach [a] X.env = [(false, eval a X.env)] := by rfl) : PID X EX (.Tuple es k pt) (.Call (.Name "enumerate" p) [a] [] pos) (dEnum f) := by
  refine PI.mono (pi_enum hg hm (pda_cons ha pda_nil (by rw [hs]; rfl)) hs) ?_
  rintro σ H R ⟨O, ρ, st, W, E, R0⟩
  have R1 := R0.bind
  refine ⟨O, ρ, st, W, E, ?_⟩
  unfold dCons dNil
  cases hf : f ρ st with
  | bad => rw [hf] at R1; exact R1.elim
  | exc c st' => rw [hf] at R1; exact R1
  | ok d st' =>
    rw [hf] at R1
    refine fun O1 H1 k1 W1 vs r => ?_
    have R2 := R1 O1 H1 k1 W1
    dsimp only at R2
    obtain ⟨v, rfl, rv⟩ := r.one_of
    cases e : seqL st' d with
    | none => rw [e] at R2; exact R2.elim
    | some xs =>
      rw [e] at R2
      obtain ⟨pa, va, rfl, q, rs⟩ := rdL W1 rv e
      refine ⟨pa, rfl, ⟨va, q⟩, Run.now (k := fun q _ O' H' => ∀ J, ItD X.K J O' H' q → R J H') R2 W1 _ ?_⟩
      intro i O' H' st2 kp W' hp
      obtain ⟨pa', ws, e1, q', r'⟩ := rdL W' (Rep.mono kp _ _ rv) hp
      cases e1
      refine ⟨fun x hx => ?_, fun hl => ⟨ws, q', by rw [← r'.length]; rw [enumL_len] at hl; exact hl⟩⟩
      dsimp only at hx
      rw [enumL_get] at hx
      cases hz : xs[i]? with
      | none => rw [hz] at hx; cases hx
      | some y =>
        rw [hz] at hx
        simp only [Option.map_some, Option.some.injEq, Nat.zero_add] at hx
        subst hx
        obtain ⟨vy, e2, ry⟩ := r'.get hz
        refine ⟨⟨ws, vy, q', e2⟩, ?_⟩
        rintro v2 H2 ⟨p2, x', hp2, rfl, rfl, h3⟩
        have e3 := h3 ws q'
        rw [e2] at e3
        cases e3
        exact ⟨Keep.laid hp2, W'.laid hp2, Rep.tup_i.mpr ⟨p2, _, rfl, upd_same, Reps.cons_i.mpr ⟨_, _, rfl, Rep.int_i.mpr rfl, Reps.one (Rep.mono (Keep.laid hp2) _ _ ry)⟩⟩⟩
end
end DL

end
/-! DLr -/
section
set_option Elab.async false
set_option linter.all false
set_option maxRecDepth 100000
/-! DL: C.m(x, ..), a def of a class called by the class -/
namespace DL
open PySem PySem.Spec PyProof.Rows L2
structure CFn (K : PySem.W.Frag) (C : Addr) (m : Str) (f : Addr) : Prop where
  sg : PySem.W.specialIn K (.ref C) "__getattribute__" = some (some (.builtin "type.__getattribute__"))
  rd : PySem.W.readsIn K C (.type "type") = true
  fc : PySem.W.findCls K (.ref C) (.type "type") m = some (.val (.ref f))
  kp : PySem.W.keepIn K (.ref f) = true
section
variable {X : Cx} {EX : EXT} {CX : CXT} {k j : Nat} {f C : Addr} {fd : FuncData} {ps : List Str} {sp : Sp} {E : XK} {x m : Str} {p pos apos : Pos} {e : Expr} {es : List Expr} {t : TA} {F : FD} {g : DA}
end
structure CfAt (P : Program) (w : World) (K : PySem.W.Frag) (mg : Str → Option Value) (base : Heap) (x : Str) (C : Addr) (m : Str) (k : Nat) (F : FD) : Prop where
  ex : ∃ (f : Addr) (fd : FuncData) (ps : List Str), FnOk P w K mg base CX0 k f fd ps (spD K F) ∧ CFn K C m f ∧ Binds K fd ps [] ∧ mg x = some (.ref C)
section
variable {X : Cx} {EX : EXT} {k j : Nat} {C : Addr} {x m : Str} {p pos apos : Pos} {e : Expr} {es : List Expr} {F : FD} {g : DA}
end
section
variable {P : Program} {w : World} {K : PySem.W.Frag} {mg : Str → Option Value} {base : Heap}
end
end DL

end
/-! DLq -/
section
set_option Elab.async false
set_option linter.all false
set_option maxRecDepth 100000
/-! DL: list(range(..)) -/
namespace DL
open PySem PySem.Spec PyProof.Rows L2
noncomputable def ivs (lo : Int) (n : Nat) : List V := (List.range n).map fun (i : Nat) => V.int (lo + i)
noncomputable def ids (lo : Int) (n : Nat) : List D := (List.range n).map fun (i : Nat) => D.int (lo + i)
section
variable {X : Cx} {EX : EXT} {a b : Expr} {ta : TA} {p p2 pos pos2 : Pos} {g : DA}
noncomputable def tLR1 (ta : TA) : TE := fun σ H Q => ta σ H fun vs H1 => ∃ j : Int, vs = [.int j] ∧ -(2 ^ 62) ≤ j ∧ j < 2 ^ 62 ∧ j.toNat ≤ small ∧ ∀ l, H1 l = none → Q (.ref l) (upd H1 l (.lst (ivs 0 j.toNat)))
noncomputable def tLR2 (ta : TA) : TE := fun σ H Q => ta σ H fun vs H1 => ∃ i j : Int, vs = [.int i, .int j] ∧ (-(2 ^ 62) ≤ i ∧ i < 2 ^ 62 ∧ -(2 ^ 62) ≤ j ∧ j < 2 ^ 62) ∧ (j - i).toNat ≤ small ∧ ∀ l, H1 l = none → Q (.ref l) (upd H1 l (.lst (ivs i (j - i).toNat)))
noncomputable def dLR1 (g : DA) : DA := fun ρ st => (g ρ st).bind fun ds st1 => match ds with
  | [.int j] => if rngOk j = true ∧ j.toNat ≤ small then .ok (ids 0 j.toNat) st1 else .bad
  | _ => .bad
noncomputable def dLR2 (g : DA) : DA := fun ρ st => (g ρ st).bind fun ds st1 => match ds with
  | [.int i, .int j] => if (rngOk i = true ∧ rngOk j = true) ∧ (j - i).toNat ≤ small then .ok (ids i (j - i).toNat) st1 else .bad
  | _ => .bad
end
end DL

end
/-! DLp -/
section
set_option Elab.async false
set_option linter.all false
set_option maxRecDepth 100000
/-! DL: list * int -/
namespace DL
open PySem PySem.Spec PyProof.Rows L2
section
variable {X : Cx} {EX : EXT}
noncomputable def mulL (a b : D) (st : Sto) : Out (List D) := match ownL st a, b with
  | some xs, .int k => if (xs ≠ [] ∧ xs.length ≤ 10) ∧ -1000 ≤ k ∧ k ≤ 1000 then .ok (repL xs k.toNat) st else .bad
  | _, _ => .bad
end
end DL

end
/-! DLo -/
section
set_option Elab.async false
set_option linter.all false
set_option maxRecDepth 100000
/-! DL: min(ints, key=abs, default=None) -/
namespace HT
open PySem PyProof.Rows
noncomputable def absI (n : Int) : Int := if n < 0 then -n else n
/-- of as near ones the first -/
noncomputable def stepA (m n : Int) : Int := if absI n < absI m then n else m
section
variable {prog : Program} {w : World} {A : Around} {E : Value → Shared → Prop} {s : Shared} {R : Result → Shared → Prop} {l I S : Addr}
/-- None, or of the nearest ones the first -/
noncomputable def minAbs : List Int → Option Int
  | [] => none
  | n :: ns => some (ns.foldl stepA n)
end
end HT
namespace DL
open PySem PySem.Spec PyProof.Rows L2
section
variable {X : Cx} {EX : EXT} {a : Expr} {ta : TE} {fa : DE} {p p1 p2 kp1 kp2 pos : Pos} {j : Nat}
noncomputable def minV : Option Int → V
  | none => .non
  | some m => .int m
noncomputable def tMin (K : PySem.W.Frag) (ta : TE) : TE := fun σ H Q => ta σ H fun v H1 => ∃ q ns, v = .ref q ∧ SqL K H1 q (ns.map V.int) ∧ Q (minV (HT.minAbs ns)) H1
/-- the ints of data -/
noncomputable def intsOf : List D → Option (List Int)
  | [] => some []
  | .int n :: ds => (intsOf ds).map (n :: ·)
  | _ :: _ => none
noncomputable def minD : Option Int → D
  | none => .non
  | some m => .int m
noncomputable def dMinAbs (f : DE) : DE := fun ρ st => (f ρ st).bind fun d st1 => match seqL st1 d with
  | some xs => match intsOf xs with
    | some ns => .ok (minD (HT.minAbs ns)) st1
    | none => .bad
  | none => .bad
end
end DL

end
/-! DX1 -/
section
set_option Elab.async false
set_option linter.all false
set_option maxRecDepth 100000
/-! DX part 1: exceptions: how they lie behind a call, how they leave a def -/
namespace DL
open PySem PySem.Spec PyProof.Rows L2
theorem objOk_there {P : Program} {w : World} {H : Hp} {h : Heap} {a : Addr} {o : HO} (x : ObjOk P w H h a o) : ∃ u, h.get? a = some u := by
  cases o with
  | lst xs => obtain ⟨_, _, _, _, e⟩ := x; exact ⟨_, e⟩
  | tup xs => obtain ⟨_, _, _, _, e, _⟩ := x; exact ⟨_, e⟩
  | dK kvs => obtain ⟨_, _, _, _, _, _, _, e, _⟩ := x; exact ⟨_, e⟩
  | dT kvs => obtain ⟨_, _, _, _, _, _, _, e, _⟩ := x; exact ⟨_, e⟩
  | set S n => obtain ⟨_, _, _, _, e, _⟩ := x; exact ⟨_, e⟩
  | ins C dx fs => obtain ⟨_, _, _, e, _⟩ := x; exact ⟨_, e⟩
  | own y => exact x
  | xd fs => obtain ⟨_, ⟨_, _, _, e, _⟩, _⟩ := x; exact ⟨_, e⟩
  | rng lo hi => obtain ⟨_, _, _, e⟩ := x; exact ⟨_, e⟩
  | frz ob u => exact ⟨_, x.1⟩
  | tbl ps => exact ⟨_, show h.get? a = some _ from x⟩
  | met f y => exact ⟨_, show h.get? a = some _ from x⟩
  | ext φ => exact x.2.1
/-- an exception passes: h, h1 ahead of it, h2 where it flies, h' a step later; all but the frames stands in B -/
theorem carry {P : Program} {w : World} {outer stack : List Env} {H H1 H' : Hp} {h h1 h2 h' B : Heap} (u : Un (frs outer) [] H H1 h h1) (un : Un (frs stack) [] H1 H' h1 h2) (hok : HOk P w H' h2) (ff : h2.FunFrames B stack)
    (c1 : ∀ b o u, h1.get? b = some o → b ∉ frs stack → h2.get? b = some u → B.get? b = some u) (c2 : ∀ b o u, H' b = some o → h2.get? b = some u → B.get? b = some u)
    (st : B.StaysIn h') (up : h2.UpToSlots h') (hy : ∀ b o, h.get? b = some o → b ∉ frs outer → b ∉ frs stack) (sub : ∀ b ∈ frs outer, b ∈ frs stack) :
    Un (frs outer) [] H H' h h' ∧ HOk P w H' h' ∧ (∀ b o u, h.get? b = some o → b ∉ frs outer → h'.get? b = some u → B.get? b = some u) ∧ ∀ b o u, H' b = some o → h'.get? b = some u → B.get? b = some u := by
  have ne : ∀ b : Addr, b ∉ ([] : List Addr) := fun b => by simp
  refine ⟨⟨fun b o q n hb _ => ?_, fun b o q n hb _ => ?_, fun b o q n _ => ?_, fun b o q _ => ?_, fun b xs q => un.tups b xs (u.tups b xs q), fun b o v q => un.frzs b o v (u.frzs b o v q), fun b ps q => ?_⟩, fun a o e => ?_, fun b o v q hb e => ?_, fun b o v q e => ?_⟩
  · have q1 := u.keep b o q n hb (ne b)
    have hs := hy b o q hb
    exact st b o (c1 b o o q1 hs (un.keep b o q1 (u.free b o q n (ne b)) hs (ne b)))
  · obtain ⟨sl, q1⟩ := u.slot b o q n hb (ne b)
    obtain ⟨sl2, q2⟩ := un.slot b _ q1 (u.free b o q n (ne b)) (sub b hb) (ne b)
    obtain ⟨_, o', ho', nf⟩ := ff.mem (sub b hb)
    rw [q2] at ho'
    cases ho'
    obtain ⟨sl3, q3⟩ := up b _ q2 nf
    exact ⟨sl3, q3⟩
  · obtain ⟨o1, q1⟩ := u.there b o q (ne b)
    exact un.free b o1 q1 (u.free b o q n (ne b)) (ne b)
  · obtain ⟨o1, q1⟩ := u.there b o q (ne b)
    obtain ⟨o2, q2⟩ := un.there b o1 q1 (ne b)
    by_cases hb : b ∈ frs stack
    · obtain ⟨_, o', ho', nf⟩ := ff.mem hb
      rw [q2] at ho'
      cases ho'
      obtain ⟨sl3, q3⟩ := up b _ q2 nf
      exact ⟨_, q3⟩
    · exact ⟨o2, st b o2 (c1 b o1 o2 q1 hb q2)⟩
  · obtain ⟨m1, q1⟩ := u.tbls b ps q
    obtain ⟨m2, q2⟩ := un.tbls b _ q1
    exact ⟨m1 ++ m2, by rw [q2, Array.append_assoc]⟩
  · refine (hok a o e).stay (fun b v hb q => ?_) (fun _ q => q) fun _ _ q => q
    rcases hb with rfl | hb
    · exact st b v (c2 b o v e q)
    · exact st b v (c2 b _ v hb q)
  · obtain ⟨o1, q1⟩ := u.there b o q (ne b)
    obtain ⟨o2, q2⟩ := un.there b o1 q1 (ne b)
    have z := c1 b o1 o2 q1 (hy b o q hb) q2
    have := st b o2 z
    rw [e] at this
    cases this
    exact z
  · obtain ⟨v0, e0⟩ := objOk_there (hok b o q)
    have z := c2 b o v0 q e0
    have := st b v0 z
    rw [e] at this
    cases this
    exact z
/-- an exception flies: of the class at C, to the frames of outer -/
structure Flies (P : Program) (w : World) (outer : List Env) (H : Hp) (s : Shared) (e : Value) (s' : Shared) (ea C : Addr) (a0 : Value) (B : Heap) (H' : Hp) : Prop where
  ev : e = .ref ea
  os : s'.os = s.os
  bare : AllBare s'.gens
  un : Un (frs outer) [] H H' s.heap s'.heap
  hok : HOk P w H' s'.heap
  fly : Heap.FlyingW B outer ea (.ref C) a0 s'.heap
  new : H' ea = none
  fresh : s.heap.get? ea = none
  c1 : ∀ b o u, s.heap.get? b = some o → b ∉ frs outer → s'.heap.get? b = some u → B.get? b = some u
  c2 : ∀ b o u, H' b = some o → s'.heap.get? b = some u → B.get? b = some u
noncomputable def CXr (P : Program) (w : World) : CXT := fun outer H s E e s' => ∃ ea C a0 B H', Flies P w outer H s e s' ea C a0 B H' ∧ E (.ref C) Option.none H'
/-- an exception that comes passes on as EX wants it; a loop may stand between -/
structure XT (X : Cx) (EX : EXT) : Prop where
  pass : XeOk (CXr X.prog X.w) X EX
  own : PassesOwn (model X.prog X.w) X.A X.env X.xe
/-- an exception may be raised here -/
structure XR (X : Cx) (EX : EXT) : Prop where
  raise : ∀ (pins : List (Addr × Obj)) (σ : L2.St) (H : Hp) (s : Shared) (C e : Addr) (h' : Heap) (args : List Value), Inv X pins σ H s → Heap.MadeExcOf s.heap h' e (.ref C) args → (∃ st O, EX C st O H) → X.xe (.ref e) { s with heap := h' }
theorem xt_nox {X : Cx} : XT X.nox EX0 := by
  refine ⟨?_, PassesOwn.never⟩
  rintro pins σ H s e s' I ⟨ea, C, a0, B, H', F, c, st, O, _, z⟩
  exact z
/-- what a def's caller wants of an exception -/
noncomputable def exOf (E : XK) : EXT := fun c _ _ H' => E (.ref c) Option.none H'
section
variable {P : Program} {w : World} {K : PySem.W.Frag} {mg : Str → Option Value} {base : Heap} {N : List Str} {qual : Str} {scope : Scope} {f : Addr} {cd : Value} {A : Around} {outer : List Env} {s : Shared} {H : Hp} {E : XK}
theorem frs_sub {X : Cx} (hk : X.stack = X.env :: X.outer) : ∀ b ∈ X.fs, b ∈ frs X.stack := fun b hb => by
  rw [hk]
  show b ∈ (X.env :: X.outer).filterMap (·.frame)
  rw [List.filterMap_cons]
  split
  · exact hb
  · exact List.mem_cons_of_mem _ hb
theorem frs_old {X : Cx} {pins : List (Addr × Obj)} {σ : L2.St} {H : Hp} {s : Shared} (I : Inv X pins σ H s) : ∀ b o, X.s₀.heap.get? b = some o → b ∉ X.fs → b ∉ frs X.stack := fun b o q hb hm => by
  rcases List.mem_cons.mp (I.stkSub b hm) with rfl | z
  · exact absurd (Nat.lt_of_lt_of_le (Heap.lt_size q) I.ok.above) (Nat.lt_irrefl _)
  · exact hb z
theorem xt_def : XT (cxOf (CXr P w) P w K mg base N qual scope f cd A outer s H E) (exOf E) := by
  refine ⟨?_, PassesOwn.leaving⟩
  rintro pins σ H1 s1 e s' I ⟨ea, C, a0, B, H', F, c, st, O, ec, hE⟩
  have ev := F.ev
  subst ev
  cases ec
  obtain ⟨F1, F2, F3, F4⟩ := F.fly
  refine wpAny_leaves_onW I.ok.frames rfl F.fly fun h' fl up => ?_
  obtain ⟨z1, z2, z3, z4⟩ := carry (P := P) (w := w) (outer := outer) I.base F.un F.hok F3 F.c1 F.c2 fl.1 up (frs_old I) (frs_sub (X := cxOf (CXr P w) P w K mg base N qual scope f cd A outer s H E) rfl)
  refine ⟨ea, _, a0, B, H', ⟨rfl, F.os.trans I.os, F.bare, z1, z2, fl, F.new, ?_, z3, z4⟩, hE⟩
  cases q : s.heap.get? ea with
  | none => rfl
  | some o =>
    obtain ⟨o1, q1⟩ := I.base.there ea o q (by show ea ∉ ([] : List Addr); simp)
    rw [F.fresh] at q1
    cases q1
theorem xr_def : XR (cxOf (CXr P w) P w K mg base N qual scope f cd A outer s H E) (exOf E) := by
  refine ⟨?_⟩
  rintro pins σ H1 s1 C e h2 args I hx ⟨st, O, hE⟩
  have hin : ∀ env ∈ (cxOf (CXr P w) P w K mg base N qual scope f cd A outer s H E).stack, ∀ b, env.frame = some b → b ∈ frs (cxOf (CXr P w) P w K mg base N qual scope f cd A outer s H E).stack := fun env he b hb => List.mem_filterMap.mpr ⟨env, he, hb⟩
  have hff := PySem.W.funFrames_hide I.stack hin
  refine wpAny_leaves_madeW (base := PySem.W.hideAll s1.heap (frs (cxOf (CXr P w) P w K mg base N qual scope f cd A outer s H E).stack)) (h := s1.heap) I.ok.frames rfl (fun b o q => PySem.W.of_hideAll _ q) hff hx fun h' t fl tup tn up => ?_
  obtain ⟨z1, z2, z3, z4⟩ := carry (P := P) (w := w) (outer := outer) (stack := (cxOf (CXr P w) P w K mg base N qual scope f cd A outer s H E).stack) (B := PySem.W.hideAll s1.heap (frs (cxOf (CXr P w) P w K mg base N qual scope f cd A outer s H E).stack)) I.base Un.refl I.hok hff
    (fun b o v _ hb q => PySem.W.hideAll_get _ q hb) (fun b o v q e => PySem.W.hideAll_get _ e fun hm => by rw [I.stkFree b hm] at q; cases q) fl.1 ((Heap.UpToSlots.of_keeps hx.keeps).trans up) (frs_old I) (frs_sub (X := cxOf (CXr P w) P w K mg base N qual scope f cd A outer s H E) rfl)
  refine ⟨e, C, _, _, H1, ⟨rfl, I.os, I.bare, z1, z2, fl, ?_, ?_, z3, z4⟩, hE⟩
  · cases q : H1 e with
    | none => rfl
    | some o =>
      obtain ⟨v, q1⟩ := objOk_there (I.hok e o q)
      rw [hx.new] at q1
      cases q1
  · cases q : s.heap.get? e with
    | none => rfl
    | some o =>
      obtain ⟨o1, q1⟩ := I.base.there e o q (by show e ∉ ([] : List Addr); simp)
      rw [hx.new] at q1
      cases q1
/-! ### a def that may raise -/
noncomputable def runX (N n : Nat) (g : DS) : FD := fun ds st => if ds.length = n then (match g (ds.map some ++ List.replicate (N - n) none) st with
  | .nx _ st' => .ok .non st'
  | .rt d st' => .ok d st'
  | .exc c st' => .exc c st'
  | _ => .bad) else .bad
theorem fnX {x qual : Str} {st : Stmt} {f : Addr} {fd : FuncData} {N ps : List Str} {k : Nat} {g : DS} (F : Fun K x qual st f fd) (S : FnScope N ps (defScope st))
    (hbody : ∀ (cdv : Value) (A : Around) (outer : List Env) (s : Shared) (H : Hp) (E : XK), Room k (A.deeper (envOfC qual (defScope st) s.heap.objs.size f cdv)) → XT (cxOf (CXr P w) P w K mg base N qual (defScope st) f cdv A outer s H E) (exOf E) →
      XR (cxOf (CXr P w) P w K mg base N qual (defScope st) f cdv A outer s H E) (exOf E) → PDS (cxOf (CXr P w) P w K mg base N qual (defScope st) f cdv A outer s H E) (exOf E) (defBody st) g) : FnOk P w K mg base (CXr P w) (k + 1) f fd ps (spD K (runX N.length ps.length g)) := by
  have hlen : ∀ vs H Q E, spD K (runX N.length ps.length g) vs H Q E → vs.length = ps.length := by
    rintro vs H Q E ⟨O, ds, st, W, r, R⟩
    unfold runX at R
    by_cases hl : ds.length = ps.length
    · rw [← r.length]; exact hl
    · rw [if_neg hl] at R; exact R.elim
  obtain ⟨oc, od, kV, doc, pm, an, cdv, ct, osl, rfl, lk, hcd⟩ := F.ex
  refine fn_of lk hcd S hlen fun A outer s H vs Q E hr h => ?_
  refine ⟨_, hbody cdv A outer s H E hr xt_def xr_def, ?_⟩
  have hl := hlen vs H Q E h
  obtain ⟨O, ds, st, W, r, R⟩ := h
  have hd : ds.length = ps.length := by rw [r.length]; exact hl
  unfold runX at R
  rw [if_pos hd] at R
  refine ⟨O, ds.map some ++ List.replicate (N.length - ps.length) none, st, W, ?_, ?_⟩
  · unfold L2.start
    rw [hl]
    exact renv_start (N := N) _ r
  · cases hg : g (ds.map some ++ List.replicate (N.length - ps.length) none) st with
    | nx ρ st' => rw [hg] at R; exact fun O' H' σ kp W' _ => R O' H' kp W' _ (Rep.non_i.mpr rfl)
    | rt d st' => rw [hg] at R; exact fun O' H' v kp W' rv => R O' H' kp W' v rv
    | exc c st' => rw [hg] at R; exact R
    | bad => rw [hg] at R; exact R
    | bk ρ st' => rw [hg] at R; exact R.elim
    | ct ρ st' => rw [hg] at R; exact R.elim
end
/-! ### raise C(e, ..) -/
theorem exc_obj {K : PySem.W.Frag} {h : Heap} {C : Addr} {bmB : List Value} {newId : String} (X : K.In h) (q : PySem.W.excIn K C bmB newId = true) :
    ∃ bm N nm qn bs hdct sn sub ab col dd k0 k1 k2 k3 k5 mN, h.get? C = some (excClassObj nm qn C N bs bm hdct sn sub ab col dd k0 k1 k2 k3 k5 newId) ∧ h.Ns N mN ∧ mN "__init__" = none ∧ OwnTail h bmB bm := by
  unfold PySem.W.excIn at q
  split at q
  · rename_i dd cd sl ho
    split at q
    · rename_i C' bm k0 k1 k2 k3 n k5 hm hs
      simp only [Bool.and_eq_true, beq_iff_eq, Bool.not_eq_true'] at q
      obtain ⟨⟨⟨⟨⟨e1, e2⟩, e3⟩, e4⟩, e5⟩, e6⟩ := q
      subst e1 e2
      cases cd with
      | mk nm bs mro ns qn hd sn sub ab col del =>
        dsimp only at hm e3 e5 e6
        subst hm e3
        have hsl : sl = #[k0, k1, k2, k3, some (.builtin n), k5] := by
          cases sl with
          | mk l => simp only at hs; rw [hs]
        subst hsl
        exact ⟨bm, ns, nm, qn, bs, hd, sn, sub, ab, col, dd, k0, k1, k2, k3, k5, _, X _ _ ho, .of_isNs (PySem.W.isNs_of_in X e5), PySem.W.nsMap_none_of_in X e5 e6, PySem.W.tail_of_in X e4⟩
    · cases q
  · cases q
section
variable {X : Cx} {EX : EXT} {e : Expr} {es : List Expr} {pos cpos p : Pos} {x : Str} {C : Addr} {g : DA} {B newId initId : String} {bmB : List Value}
noncomputable def sRaise (C : Addr) (g : DA) : DS := fun ρ st => (g ρ st).to fun ds st1 => if ds.length ≤ small then .exc C st1 else .bad
theorem pd_raise (hx : XR X EX) (hc : X.calm = true) (hg : Gl X x) (hm : X.mg x = some (.ref C)) (hq : PySem.W.excIn X.K C bmB newId = true) (FB : ExcBaseFacts B newId initId bmB) (ha : PDA X EX (e :: es) g)
    (hdb : (x == ("__debug__" : Str)) = false := by decide) (he : starEach (e :: es) X.env = (false, eval e X.env) :: starEach es X.env := by rfl) (hpl : (backTo cpos (starEach es X.env)).any (·.1) = false := by rfl) :
    PDs X EX (.Raise (some (.Call (.Name x p) (e :: es) [] cpos)) none pos) (sRaise C g) := by
  rintro pins s σ H D I ⟨O, ρ, st, W, Ev, R⟩
  obtain ⟨bm, N, nm, qn, bs, hdct, sn, sub, ab, col, dd, k0, k1, k2, k3, k5, mN, hC, hN, hni, T⟩ := exc_obj I.ok.mod.kin hq
  refine wpAny_Raise_call_subT (C := C) (nm := nm) (q := qn) (N := N) (bs := bs) (bm := bm) (hdct := hdct) (sn := sn) (sub := sub) (ab := ab) (col := col) (dd := dd) (k0 := k0) (k1 := k1) (k2 := k2) (k3 := k3) (k5 := k5)
    FB (mN := mN) (T.hasType FB.hasBase) (I.ok.hd hc) (by rw [he]; show (false || (backTo cpos (starEach es X.env)).any (·.1)) = false; rw [hpl]; rfl) hni (ld_glob I hg hm ⟨rfl, ?_⟩ hdb)
  have h0 := ha cpos pins s σ H (fun vs H' => vs.length ≤ sizeLine ∧ ∃ st O, EX C st O H') I ⟨O, ρ, st, W, Ev, R.to.mono fun ds st1 O1 H1 k1 W1 R1 vs rs => by
    by_cases hz : ds.length ≤ small
    · rw [if_pos hz] at R1
      exact ⟨by rw [← rs.length]; exact Nat.le_trans hz small_le, st1, O1, R1 O1 H1 Keep.refl W1⟩
    · rw [if_neg hz] at R1; exact R1.elim⟩
  rw [he] at h0 ⊢
  refine Calls.evalArgs_plain (wpAny_mono h0 (fun us s2 h2 => ?_) fun _ _ y => y)
  obtain ⟨vs, H2, I2, rv, hl, st2, O2, hE⟩ := h2
  exact ⟨rfl, by rw [← rv.length]; exact hl, I2.bk _ _ hC, hN.keeps I2.bk, T.keeps I2.bk, fun h' e hm => hx.raise pins σ H2 s2 C e h' us I2 hm ⟨st2, O2, hE⟩⟩
end
/-! ### defs and methods that may raise, by their names -/
structure FnX (P : Program) (w : World) (K : PySem.W.Frag) (mg : Str → Option Value) (base : Heap) (x : Str) (k : Nat) (F : FD) : Prop where
  ex : ∃ (f : Addr) (fd : FuncData) (ps : List Str), FnOk P w K mg base (CXr P w) k f fd ps (spD K F) ∧ mg x = some (.ref f) ∧ PySem.W.keepIn K (.ref f) = true ∧ Binds K fd ps []
structure MtX (P : Program) (w : World) (K : PySem.W.Frag) (mg : Str → Option Value) (base : Heap) (C : Addr) (m : Str) (k : Nat) (F : FD) : Prop where
  ex : ∃ (f : Addr) (fd : FuncData) (ps : List Str), FnOk P w K mg base (CXr P w) k f fd ps (spD K F) ∧ Meth K C m f ∧ Binds K fd ps []
section
variable {X : Cx} {EX : EXT} {e o : Expr} {es : List Expr} {pos p apos : Pos} {x m : Str} {k j : Nat} {F : FD} {g : DA} {C : Addr} {fo : DE}
theorem pd_fnX (h : FnX X.prog X.w X.K X.mg X.base x j F) (hx : XT X EX) (hr : Room k X.A) (hj : j ≤ k) (hg : Gl X x) (ha : PDA X EX (e :: es) g)
    (hdb : (x == ("__debug__" : Str)) = false := by decide) (he : starEach (e :: es) X.env = (false, eval e X.env) :: starEach es X.env := by rfl) (hpl : (backTo pos (starEach es X.env)).any (·.1) = false := by rfl) :
    PD X EX (.Call (.Name x p) (e :: es) [] pos) (dCall F g) := by
  obtain ⟨f, fd, ps, G, hm, hk, hb⟩ := h.ex
  exact pd_call G (hr.mono hj) hg hm hk hb hx.pass ha hdb he hpl
theorem pd_mtX {pl : Sem Bool} (h : MtX X.prog X.w X.K X.mg X.base C m j F) (hx : XT X EX) (c : Cls X.K C) (hr : Room k X.A) (hj : j ≤ k) (he : PD X EX o fo) (ha : PDA X EX (e :: es) g)
    (hst : starEach (e :: es) X.env = (false, eval e X.env) :: starEach es X.env := by rfl) (hpl : (backTo pos (starEach es X.env)).any (·.1) = false := by rfl)
    (ht : eval (.Call (.Attribute o m apos) (e :: es) [] pos) X.env = (do
      let ov ← eval o X.env
      standAt apos.atName
      let (f, first) ← holding [ov] (getMethod ov m pl)
      callWith pos f first (backTo pos (starEach (e :: es) X.env)) (backToKw pos (keywordEach [] X.env))) := by rfl) :
    PD X EX (.Call (.Attribute o m apos) (e :: es) [] pos) (dMeth C m F fo g) := by
  obtain ⟨f, fd, ps, G, hm, hb⟩ := h.ex
  exact pd_meth he c hm G (hr.mono hj) hb hx.pass ha hst hpl ht
theorem pd_mtX0 {pl : Sem Bool} (h : MtX X.prog X.w X.K X.mg X.base C m j F) (hx : XT X EX) (c : Cls X.K C) (hr : Room k X.A) (hj : j ≤ k) (he : PD X EX o fo)
    (ht : eval (.Call (.Attribute o m apos) [] [] pos) X.env = (do
      let ov ← eval o X.env
      standAt apos.atName
      let (f, first) ← holding [ov] (getMethod ov m pl)
      callWith pos f first (backTo pos (starEach [] X.env)) (backToKw pos (keywordEach [] X.env))) := by rfl) :
    PD X EX (.Call (.Attribute o m apos) [] [] pos) (dMeth C m F fo dNil) := by
  obtain ⟨f, fd, ps, G, hm, hb⟩ := h.ex
  exact pd_meth0 he c hm G (hr.mono hj) hb hx.pass ht
end
section
variable {P : Program} {w : World} {K : PySem.W.Frag} {mg : Str → Option Value} {base : Heap}
theorem fnXAt {x qual : Str} {st : Stmt} {f : Addr} {fd : FuncData} {N ps : List Str} {k : Nat} {g : DS} (F : Fun K x qual st f fd) (S : FnScope N ps (defScope st)) (hm : mg x = some (.ref f)) (hb : Binds K fd ps [])
    (hbody : ∀ (cdv : Value) (A : Around) (outer : List Env) (s : Shared) (H : Hp) (E : XK), Room k (A.deeper (envOfC qual (defScope st) s.heap.objs.size f cdv)) → XT (cxOf (CXr P w) P w K mg base N qual (defScope st) f cdv A outer s H E) (exOf E) →
      XR (cxOf (CXr P w) P w K mg base N qual (defScope st) f cdv A outer s H E) (exOf E) → PDS (cxOf (CXr P w) P w K mg base N qual (defScope st) f cdv A outer s H E) (exOf E) (defBody st) g) : FnX P w K mg base x (k + 1) (runX N.length ps.length g) :=
  ⟨f, fd, ps, fnX F S hbody, hm, F.kp, hb⟩
theorem mtXAt {x qual : Str} {st : Stmt} {f C : Addr} {fd : FuncData} {N ps : List Str} {k : Nat} {g : DS} (F : Fun K x qual st f fd) (S : FnScope N ps (defScope st)) (hm : Meth K C x f) (hb : Binds K fd ps [])
    (hbody : ∀ (cdv : Value) (A : Around) (outer : List Env) (s : Shared) (H : Hp) (E : XK), Room k (A.deeper (envOfC qual (defScope st) s.heap.objs.size f cdv)) → XT (cxOf (CXr P w) P w K mg base N qual (defScope st) f cdv A outer s H E) (exOf E) →
      XR (cxOf (CXr P w) P w K mg base N qual (defScope st) f cdv A outer s H E) (exOf E) → PDS (cxOf (CXr P w) P w K mg base N qual (defScope st) f cdv A outer s H E) (exOf E) (defBody st) g) : MtX P w K mg base C x (k + 1) (runX N.length ps.length g) :=
  ⟨f, fd, ps, fnX F S hbody, hm, hb⟩
end
end DL

end
/-! DX2 -/
section
set_option Elab.async false
set_option linter.all false
set_option maxRecDepth 100000
/-! DX part 2: within an except suite: calls, isinstance of an exception; try -/
namespace DL
open PySem PySem.Spec PyProof.Rows L2
/-! ### another around -/
noncomputable abbrev Cx.at (X : Cx) (A : Around) (pn : List (Addr × Obj)) (E : Value → Shared → Prop) : Cx := { X with A := A, calm := false, pn := pn, xe := E }
/-- the same around, other pins -/
noncomputable abbrev Cx.pinned (X : Cx) (pn : List (Addr × Obj)) (E : Value → Shared → Prop) : Cx := { X with pn := pn, xe := E }
/-! ### a name goes -/
/-! ### a def that is called within an except suite -/
structure RoomH (k : Nat) (A : Around) : Prop where
  dp : A.depth + 3 * k + 5 < recursionLimit
  un : A.units + 16 * k + 200 < cLine
theorem RoomH.mono {j k : Nat} {A : Around} (r : RoomH k A) (h : j ≤ k) : RoomH j A := ⟨by have := r.dp; omega, by have := r.un; omega⟩
theorem RoomH.deeper {k : Nat} {A : Around} (r : RoomH (k + 1) A) (env : Env) : RoomH k (A.deeper env) := ⟨by have := r.dp; show A.depth + 1 + 3 * k + 5 < _; omega, by have := r.un; show A.units + 3 + 16 * k + 200 < _; omega⟩
theorem RoomH.of {k : Nat} {A : Around} (r : Room k A) (e : Option Value) : RoomH k (A.mark e) := ⟨r.dp, r.un⟩
theorem RoomH.units {k : Nat} {A : Around} (r : RoomH k A) : A.units + 64 < cLine := by have := r.un; omega
structure FnH (P : Program) (w : World) (K : PySem.W.Frag) (mg : Str → Option Value) (base : Heap) (k : Nat) (f : Addr) (fd : FuncData) (ps : List Str) (sp : Sp) : Prop where
  len : ∀ vs H Q E, sp vs H Q E → vs.length = ps.length
  run : ∀ (A : Around) (outer : List Env) (s : Shared) (H : Hp) (args : Args) (us : List Value) (vs : List V) (Q : VK), RoomH k A → Env0 P w K mg base A outer s H → BindsTo s fd args (ps.zip us) → Vals vs us → sp vs H Q E0 →
    codeAny (model P w) A (.call (.ref f) args) (CR CX0 outer P w H s Q E0) s
/-- the context of such a def's body -/
noncomputable abbrev cxH (P : Program) (w : World) (K : PySem.W.Frag) (mg : Str → Option Value) (base : Heap) (N : List Str) (qual : Str) (scope : Scope) (f : Addr) (cd : Value) (A : Around) (outer : List Env) (s : Shared) (H : Hp) : Cx :=
  Cx.at (cxOf CX0 P w K mg base N qual scope f cd A outer s H E0) (A.deeper (envOfC qual scope s.heap.objs.size f cd)) [] fun _ _ => False
section
variable {P : Program} {w : World} {K : PySem.W.Frag} {mg : Str → Option Value} {base : Heap}
structure FnHAt (P : Program) (w : World) (K : PySem.W.Frag) (mg : Str → Option Value) (base : Heap) (x : Str) (k : Nat) (F : FD) : Prop where
  ex : ∃ (f : Addr) (fd : FuncData) (ps : List Str), FnH P w K mg base k f fd ps (spD K F) ∧ mg x = some (.ref f) ∧ PySem.W.keepIn K (.ref f) = true ∧ Binds K fd ps []
end
section
variable {X : Cx} {EX : EXT} {e : Expr} {es : List Expr} {pos p : Pos} {x : Str} {k j : Nat} {F : FD} {g : DA}
end
end DL

end
/-! DX3 -/
section
set_option Elab.async false
set_option linter.all false
set_option maxRecDepth 100000
/-! DX part 3: what a clause catches, isinstance of an exception, try -/
namespace DL
open PySem PySem.Spec PyProof.Rows L2
/-- an exception's class that a clause may name -/
structure ExcK (K : PySem.W.Frag) (C : Addr) : Prop where
  nt : PySem.W.instIn K (.ref C) (.type "tuple") = some false
  ty : (PySem.W.clsIn K C).isSome = true
  sb : PySem.W.subIn K (.ref C) (.type "BaseException") = some true
/-! ### where a clause runs -/
/-- what the clause's suite comes to -/
noncomputable def handAs (n i : Nat) (gh : DS) (c : Addr) (st : Sto) : OutS := match gh ((List.replicate n none).set i (some (.exv c))) st with
  | .rt d st' => .rt d st'
  | .nx ρ st' => .nx (ρ.set i none) st'
  | _ => .bad
noncomputable def handNo (n : Nat) (gh : DS) (_ : Addr) (st : Sto) : OutS := match gh (List.replicate n none) st with
  | .rt d st' => .rt d st'
  | .nx ρ st' => .nx ρ st'
  | _ => .bad
/-- try: .. except C: .., cs the classes that are caught -/
noncomputable def sTry (cs : List Addr) (hand : Addr → Sto → OutS) (g : DS) : DS := fun ρ st => match g ρ st with
  | .exc c st' => if c ∈ cs then hand c st' else .bad
  | r => r
section
variable {X : Cx} {EX : EXT} {body suite : List Stmt} {b₀ : Stmt} {pos hpos np : Pos} {x n : Str} {Cb : Addr} {cs : List Addr} {g gh : DS} {i : Nat}
end
end DL

end
/-! DX4 -/
section
set_option Elab.async false
set_option linter.all false
set_option maxRecDepth 100000
/-! DX part 4: isinstance of an exception -/
namespace DL
open PySem PySem.Spec PyProof.Rows L2
/-- an exception's class, for isinstance -/
structure ExcC (K : PySem.W.Frag) (C : Addr) : Prop where
  ty : PySem.W.isClsIn K C = true
  ga : PySem.W.findIn K (.ref C) "__getattribute__" = some (some (.builtin "BaseException.__getattribute__"))
  gt : PySem.W.findIn K (.ref C) "__getattr__" = some none
  cl : PySem.W.findIn K (.ref C) "__class__" = some (some (.builtin "object.__class__"))
  sb : PySem.W.subIn K (.ref C) (.type "BaseException") = some true
  so : PySem.W.subIn K (.ref C) (.type "object") = some true
section
variable {prog : Program} {w : World} {A : Around} {E : Value → Shared → Prop} {s : Shared} {K : PySem.W.Frag} {a C : Addr}
end
/-! ### isinstance(e, C), e an exception -/
section
variable {X : Cx} {EX : EXT} {e : Expr} {fa : DE} {pos p pT : Pos}
/-- by a table: the classes that may come, and what isinstance tells of each -/
noncomputable def dInstX (tab : List (Addr × Bool)) (f : DE) : DE := fun ρ st => (f ρ st).bind fun d st1 => match d with
  | .exv C => match tab.lookup C with
    | some b => .ok (.bl b) st1
    | none => .bad
  | _ => .bad
noncomputable def TabOk (K : PySem.W.Frag) (tab : List (Addr × Bool)) (v : Value) : Prop := ∀ C b, tab.lookup C = some b → ExcC K C ∧ PySem.W.kitOne K (.ref C) v = some b
end
end DL

end
/-! DX5 -/
section
set_option Elab.async false
set_option linter.all false
set_option maxRecDepth 100000
/-! DX part 5: count and index of a list -/
namespace DL
open PySem PySem.Spec PyProof.Rows L2
/-- == of each with x -/
noncomputable def eqsOf (st : Sto) (x : D) : List D → Option (List Bool)
  | [] => some []
  | y :: ys => match eqN st depth y x, eqsOf st x ys with
    | some a, some b => some (a :: b)
    | _, _ => none
section
variable {X : Cx} {EX : EXT} {a b c e o : Expr} {fa fb fc fo : DE} {pos p apos cpos : Pos} {es : List Expr} {g : DA}
open Classical in
theorem eq_items {pins : List (Addr × Obj)} {σ : L2.St} {s : Shared} {O : List Addr} {H : Hp} {st : Sto} (I : Inv X pins σ H s) (W : WR X.K O H st) {x : D} {vx : V} {ux : Value} (rx : Rep X.K O H x vx) (qx : L2.RelV vx ux) {A : Around} (hA : A.units + depth < cLine) :
    ∀ {ys : List D} {vs : List V} {its : List Value} {bs : List Bool}, eqsOf st x ys = some bs → Reps X.K O H ys vs → Vals vs its →
      ∃ e : Value → Bool, (∀ z, e z = decide (∃ d v, Rep X.K O H d v ∧ L2.RelV v z ∧ eqN st depth d x = some true)) ∧ (∀ z ∈ its, SeqAt.EqAt A s z ux (e z)) ∧ its.map e = bs
  | [], vs, its, k, h, r, q => by
    rw [Reps.nil_i] at r
    subst r
    cases q
    simp only [eqsOf, Option.some.injEq] at h
    subst h
    exact ⟨fun z => decide (∃ d v, Rep X.K O H d v ∧ L2.RelV v z ∧ eqN st depth d x = some true), fun _ => rfl, (fun z hz => (by cases hz)), rfl⟩
  | y :: ys, vs, its, k, h, r, q => by
    obtain ⟨v, vs', rfl, ry, rs⟩ := Reps.cons_i.mp r
    cases q with
    | cons q1 q2 =>
      rename_i u us
      unfold eqsOf at h
      cases e1 : eqN st depth y x with
      | none => rw [e1] at h; cases h
      | some a =>
        cases e2 : eqsOf st x ys with
        | none => rw [e1, e2] at h; cases h
        | some b =>
          rw [e1, e2] at h
          simp only [Option.some.injEq] at h
          obtain ⟨e, he, h1, h2⟩ := eq_items I W rx qx hA e2 rs q2
          have hu : e u = a := by
            rw [he u]
            cases a with
            | true => exact decide_eq_true ⟨y, v, ry, q1, e1⟩
            | false =>
              refine decide_eq_false ?_
              rintro ⟨d, v', r', q', e'⟩
              have ev : v' = v := q'.inj q1
              subst ev
              have ed := Rep.inj I W d y v' r' ry
              subst ed
              rw [e1] at e'
              cases e'
          refine ⟨e, he, fun z hz => ?_, ?_⟩
          · rcases List.mem_cons.mp hz with rfl | hz
            · rw [hu]
              exact (eq_sound I W depth y x a e1 A v vx z ux ry rx q1 qx hA).1
            · exact h1 z hz
          · rw [List.map_cons, hu, h2]
            exact h
noncomputable def countD (d : D) : List D → Sto → Out D
  | [x], st => match seqL st d with
    | some ys => match eqsOf st x ys with
      | some bs => .ok (.int (bs.count true : Nat)) st
      | none => .bad
    | none => .bad
  | _, _ => .bad
noncomputable def indexD (d : D) : List D → Sto → Out D
  | [x], st => match seqL st d with
    | some ys => match eqsOf st x ys with
      | some bs => if bs.idxOf true < bs.length then .ok (.int (bs.idxOf true : Nat)) st else .bad
      | none => .bad
    | none => .bad
  | _, _ => .bad
noncomputable abbrev rLM (X : Cx) (EX : EXT) (γ : D → List D → Sto → Out D) : V → List V → Hp → VK → Prop := fun x xs H Q => ∃ O d ds st, WR X.K O H st ∧ Rep X.K O H d x ∧ Reps X.K O H ds xs ∧ Run X.K EX O H (γ d ds st) (Val X.K Q)
theorem mt_indexD (hu : X.A.units + 64 < cLine) : MtR X "list.index" (rLM X EX indexD) := by
  intro pins s σ H x xs v us Q I rx rxs h
  obtain ⟨O, d, ds, st, W, r, rs, R⟩ := h
  match ds, rs, R with
  | [], _, R => exact R.elim
  | _ :: _ :: _, _, R => exact R.elim
  | [y], rs, R =>
    dsimp only [indexD] at R
    cases e1 : seqL st d with
    | none => rw [e1] at R; exact R.elim
    | some ys =>
      rw [e1] at R
      dsimp only at R
      cases e2 : eqsOf st y ys with
      | none => rw [e2] at R; exact R.elim
      | some bs =>
        rw [e2] at R
        dsimp only at R
        by_cases hj : bs.idxOf true < bs.length
        · rw [if_pos hj] at R
          obtain ⟨p, vs, rfl, q, rz⟩ := rdL W r e1
          obtain ⟨v', rfl, rv⟩ := rs.one_of
          obtain ⟨u, rfl, ru⟩ := vals1 rxs
          cases rx
          obtain ⟨its, hv, ⟨⟨cls, dd, data, sl⟩, n, ho, hc, hd, hdd⟩, hz⟩ := I.list q
          simp only at hc hd hdd
          subst hc hd hdd
          obtain ⟨e, _, h1, h2⟩ := eq_items I W rv ru (in_units hu) e2 rz hv
          have hl : its.length = bs.length := by rw [← h2, List.length_map]
          have at_ : ∀ m (hm : m < its.toArray.size), e its.toArray[m] = bs[m]'(by simpa [← hl] using hm) := by
            intro m hm
            have : bs[m]? = some (e its.toArray[m]) := by
              rw [← h2, List.getElem?_map, List.getElem?_eq_getElem (by simpa using hm)]
              simp
            rw [List.getElem?_eq_getElem (by simpa [← hl] using hm)] at this
            exact (Option.some.inj this).symm
          have hlt : bs.idxOf true < its.toArray.size := by simpa [hl] using hj
          have hb63 : ((bs.idxOf true : Nat) : Int) < 2 ^ 63 - 1 := by
            have h3 : its.length ≤ sizeLine := by rw [← hv.length]; exact hz
            have h4 := line63
            have h5 : bs.idxOf true < its.length := by simpa using hlt
            omega
          refine call_meets PySem.F.slot_list_index ⟨_, ho, rfl⟩ PySem.F.entry_list_index (PySem.F.args_list_index_2 _ _) (SeqAt.list_indexAt p its.toArray n _ sl u e (bs.idxOf true) hlt hb63 ?_ fun m hm hlt' => ?_) ⟨ho, fun z hz => h1 z (by simpa using hz), ?_⟩
          · rw [at_ _ hlt]
            exact List.getElem_idxOf hj
          · rw [at_ m hm]
            have := List.not_of_lt_findIdx (p := (· == true)) (xs := bs) (i := m) hlt'
            simpa using this
          · exact ⟨.int _, H, I.tok _, ⟨_, rfl⟩, Run.now (k := Val X.K Q) R W _ (Rep.int_i.mpr rfl)⟩
        · rw [if_neg hj] at R; exact R.elim
/-- a method of a list that reads alone -/
noncomputable def dLM (γ : D → List D → Sto → Out D) (fo : DE) (f : DA) : DE := fun ρ st => (fo ρ st).bind fun d st1 => match seqL st1 d with
  | some _ => (f ρ st1).bind fun ds st2 => γ d ds st2
  | none => .bad
theorem pd_lm {name : Str} {id : String} {γ : D → List D → Sto → Out D} (slot : Slot "list" name id) (hty : typeOf (.builtin id) = pure (.type "method_descriptor")) (hm : MtR X id (rLM X EX γ)) (ho : PD X EX o fo) (ha : PDA X EX (e :: es) g)
    (hbase : attributeBase o name X.env (eval o X.env) = eval o X.env := by rfl)
    (hfew : ((backTo cpos (starEach (e :: es) X.env)).all (fun x => !x.1) && (backToKw cpos (keywordEach [] X.env)).all (fun x => x.1.isSome)
      && decide ((e :: es).length + ([] : List Keyword).length + (if ([] : List Keyword).isEmpty then 0 else 1) < 30)) = true := by rfl)
    (hline : (apos.endLine == cpos.line) = true := by rfl) (hs : starEach (e :: es) X.env = (false, eval e X.env) :: starEach es X.env := by rfl) (hplain : (backTo cpos (starEach es X.env)).any (·.1) = false := by rfl) :
    PD X EX (.Call (.Attribute o name apos) (e :: es) [] cpos) (dLM γ fo g) := by
  refine PE.mono (pe_bm PySem.F.plainAttrs_list slot hty hm ho ha hbase hfew hline hs hplain) ?_
  rintro σ H Q ⟨O, ρ, st, W, E, R⟩
  refine ⟨O, ρ, st, W, E, R.bind.mono fun d st1 O1 H1 k1 W1 R1 v r => ?_⟩
  cases e1 : seqL st1 d with
  | none => rw [e1] at R1; exact R1.elim
  | some ys =>
    rw [e1] at R1
    obtain ⟨pp, vs, rfl, q, rz⟩ := rdL W1 r e1
    exact ⟨.inl ⟨rfl, _, q⟩, O1, ρ, st1, W1, E.mono k1, R1.bind.mono fun ds st2 O2 H2 k2 W2 R2 vs rs => ⟨O2, d, ds, st2, W2, Rep.mono k2 _ _ r, rs, R2⟩⟩
end
/-! ### how these are reckoned -/
section
variable {ρ : Ev} {st : Sto} {f fo : DE} {da : DA} {g : DS} {C : Addr}
@[simp] theorem z_bind_exc {α β : Type} (c : Addr) (st : Sto) (k : α → Sto → Out β) : (Out.exc c st : Out α).bind k = .exc c st := rfl
@[simp] theorem z_to_exc {α : Type} (c : Addr) (st : Sto) (k : α → Sto → OutS) : (Out.exc c st : Out α).to k = .exc c st := rfl
@[simp] theorem z_runX {N n : Nat} {ds : List D} : runX N n g ds st = if ds.length = n then (match g (ds.map some ++ List.replicate (N - n) none) st with
  | .nx _ st' => .ok .non st'
  | .rt d st' => .ok d st'
  | .exc c st' => .exc c st'
  | _ => .bad) else .bad := rfl
@[simp] theorem z_sRaise : sRaise C da ρ st = (da ρ st).to fun ds st1 => if ds.length ≤ small then .exc C st1 else .bad := rfl
@[simp] theorem z_instX {tab : List (Addr × Bool)} : dInstX tab f ρ st = (f ρ st).bind fun d st1 => match d with
  | .exv C => match tab.lookup C with
    | some b => .ok (.bl b) st1
    | none => .bad
  | _ => .bad := rfl
@[simp] theorem z_LM {γ : D → List D → Sto → Out D} : dLM γ fo da ρ st = (fo ρ st).bind fun d st1 => match seqL st1 d with
  | some _ => (da ρ st1).bind fun ds st2 => γ d ds st2
  | none => .bad := rfl
end
/-! ### parts of a text -/
noncomputable def ifBody : Stmt → List Stmt
  | .If _ b _ _ => b
  | _ => []
noncomputable def ifElse : Stmt → List Stmt
  | .If _ _ b _ => b
  | _ => []
noncomputable def forBody : Stmt → List Stmt
  | .For _ _ b _ _ => b
  | _ => []
noncomputable def whileBody : Stmt → List Stmt
  | .While _ b _ _ => b
  | _ => []
/-- a promise that holds wherever the classes stand, if they stand apart -/
noncomputable def spB (K : PySem.W.Frag) (G : (Nat → Addr) → Prop) (F : (Nat → Addr) → FD) : Sp := fun vs H Q E => ∀ cv, G cv → spD K (F cv) vs H Q E
end DL

end
/-! DX6 -/
section
set_option Elab.async false
set_option linter.all false
set_option maxRecDepth 100000
/-! DX part 6: a def called with nothing -/
namespace DL
open PySem PySem.Spec PyProof.Rows L2
section
variable {X : Cx} {EX : EXT} {pos p : Pos} {x : Str} {k j : Nat} {F : FD}
end
/-! lists of so many -/
theorem us1 {P : List Value → Prop} (h : ∀ a, P [a]) : ∀ us : List Value, us.length = 1 → P us
  | [a], _ => h a
theorem us2 {P : List Value → Prop} (h : ∀ a b, P [a, b]) : ∀ us : List Value, us.length = 2 → P us
  | [a, b], _ => h a b
theorem us3 {P : List Value → Prop} (h : ∀ a b c, P [a, b, c]) : ∀ us : List Value, us.length = 3 → P us
  | [a, b, c], _ => h a b c
end DL

end
/-! DY1 -/
section
set_option Elab.async false
set_option linter.all false
set_option maxRecDepth 100000
/-! DL: sorted: the order in which the comparisons of the sort leave things that are all apart -/
namespace SO
open PySem PySem.W PyProof.Rows
/-- each question is of numbers below n, answered by lt; what comes of it is Q -/
noncomputable def ok {α : Type} (n : Nat) (lt : Nat → Nat → Bool) : KasT α → (α → Prop) → Prop
  | .ret a, Q => Q a
  | .ask i j k, Q => i < n ∧ j < n ∧ ok n lt (k (lt i j)) Q
section
variable {α β : Type} {n : Nat} {lt : Nat → Nat → Bool}
theorem ok_bind {f : α → KasT β} {Q : β → Prop} : ∀ {t : KasT α}, ok n lt t (fun a => ok n lt (f a) Q) → ok n lt (t.bind f) Q
  | .ret _, h => h
  | .ask _ _ k, ⟨h1, h2, h3⟩ => ⟨h1, h2, ok_bind (t := k _) h3⟩
theorem ok_mono {Q Q' : α → Prop} (f : ∀ a, Q a → Q' a) : ∀ {t : KasT α}, ok n lt t Q → ok n lt t Q'
  | .ret _, h => f _ h
  | .ask _ _ k, ⟨h1, h2, h3⟩ => ⟨h1, h2, ok_mono f (t := k _) h3⟩
theorem ok_wp {cmp : Nat → Nat → (Bool → Shared → Prop) → Shared → Prop} {s : Shared} {G : α → Shared → Prop} {Q : α → Prop} (hc : ∀ i j C, i < n → j < n → C (lt i j) s → cmp i j C s) (hG : ∀ a, Q a → G a s) : ∀ {t : KasT α}, ok n lt t Q → t.kasWp cmp G s
  | .ret _, h => hG _ h
  | .ask i j k, ⟨h1, h2, h3⟩ => hc i j _ h1 h2 (ok_wp hc hG (t := k _) h3)
end
/-- all apart -/
structure Ord (n : Nat) (lt : Nat → Nat → Bool) : Prop where
  tot : ∀ i j, i < n → j < n → i ≠ j → lt i j = false → lt j i = true
  asy : ∀ i j, i < n → j < n → lt i j = true → lt j i = false
  trn : ∀ i j k, i < n → j < n → k < n → lt i j = true → lt j k = true → lt i k = true
noncomputable def Al (n : Nat) (p : Array Nat) : Prop := p.toList.Perm (List.range n)
noncomputable abbrev G (p : Array Nat) (i : Nat) : Nat := p.getD i 0
section
variable {n : Nat} {lt : Nat → Nat → Bool} {p : Array Nat}
theorem Al.size (h : Al n p) : p.size = n := by have := h.length_eq; simpa using this
theorem G_eq (i : Nat) (h : i < p.size) : G p i = p[i] := by simp [G, Array.getD, h]
theorem Al.bel (h : Al n p) (i : Nat) (hn : 0 < n) : G p i < n := by
  by_cases hi : i < p.size
  · rw [G_eq i hi]
    have : p[i] ∈ p.toList := by simp
    have := h.mem_iff.mp this
    simpa using this
  · simp [G, Array.getD, hi, hn]
theorem Al.inj (h : Al n p) {i j : Nat} (hi : i < n) (hj : j < n) (ne : i ≠ j) : G p i ≠ G p j := by
  have nd : p.toList.Nodup := h.nodup_iff.mpr List.nodup_range
  have hs := h.size
  rw [G_eq i (by omega), G_eq j (by omega)]
  intro e
  have := (List.getElem_inj (i := i) (j := j) (h₀ := by simpa using (by omega : i < p.size)) (h₁ := by simpa using (by omega : j < p.size)) nd).mp (by simpa using e)
  exact ne this
theorem G_cong {q : Array Nat} {i j : Nat} (h : p[i]? = q[j]?) : G p i = G q j := by
  simp only [G, Array.getD_eq_getD_getElem?, h]
noncomputable def SP (lt : Nat → Nat → Bool) (p : Array Nat) (k : Nat) : Prop := ∀ i j, i < j → j < k → lt (G p i) (G p j) = true
noncomputable def DP (lt : Nat → Nat → Bool) (p : Array Nat) (k : Nat) : Prop := ∀ i j, i < j → j < k → lt (G p j) (G p i) = true
theorem SP.one : SP lt p 1 := fun i j h1 h2 => by omega
theorem SP.next (O : Ord n lt) (h : Al n p) {m : Nat} (h1 : 1 ≤ m) (hm : m < n) (s : SP lt p m) (e : lt (G p (m - 1)) (G p m) = true) : SP lt p (m + 1) := by
  intro i j hij hj
  by_cases hjm : j < m
  · exact s i j hij hjm
  · have : j = m := by omega
    subst this
    by_cases hi : i = j - 1
    · subst hi; exact e
    · exact O.trn _ _ _ (h.bel _ (by omega)) (h.bel _ (by omega)) (h.bel _ (by omega)) (s i (j - 1) (by omega) (by omega)) e
theorem DP.next (O : Ord n lt) (h : Al n p) {m : Nat} (h1 : 1 ≤ m) (hm : m < n) (s : DP lt p m) (e : lt (G p m) (G p (m - 1)) = true) : DP lt p (m + 1) := by
  intro i j hij hj
  by_cases hjm : j < m
  · exact s i j hij hjm
  · have : j = m := by omega
    subst this
    by_cases hi : i = j - 1
    · subst hi; exact e
    · exact O.trn _ _ _ (h.bel _ (by omega)) (h.bel _ (by omega)) (h.bel _ (by omega)) e (s i (j - 1) (by omega) (by omega))
theorem asc_ok (O : Ord n lt) (h : Al n p) : ∀ (f m : Nat), 1 ≤ m → m + f = n → SP lt p m → ok n lt (kas_asc p f m) (fun r => m ≤ r ∧ r ≤ n ∧ SP lt p r ∧ (r < n → lt (G p r) (G p (r - 1)) = true))
  | 0, m, h1, hf, s => ⟨Nat.le_refl _, by omega, s, fun z => by omega⟩
  | f + 1, m, h1, hf, s => by
    unfold kas_asc
    refine ⟨h.bel _ (by omega), h.bel _ (by omega), ?_⟩
    cases e : lt (p.getD m 0) (p.getD (m - 1) 0) with
    | true =>
      dsimp only
      rw [if_pos rfl]
      exact ⟨Nat.le_refl _, by omega, s, fun _ => e⟩
    | false =>
      dsimp only
      rw [if_neg (by simp)]
      have e' := O.tot _ _ (h.bel _ (by omega)) (h.bel _ (by omega)) (h.inj (i := m) (j := m - 1) (by omega) (by omega) (by omega)) e
      exact ok_mono (fun r z => ⟨Nat.le_of_succ_le z.1, z.2⟩) (asc_ok O h f (m + 1) (by omega) (by omega) (s.next O h h1 (by omega) e'))
theorem desc_ok (O : Ord n lt) (h : Al n p) : ∀ (f m : Nat), 1 ≤ m → m + f = n → DP lt p m → ok n lt (kas_desc f p m 0) (fun r => r.1 = p ∧ r.2.2 = 0 ∧ m ≤ r.2.1 ∧ r.2.1 ≤ n ∧ DP lt p r.2.1)
  | 0, m, h1, hf, s => ⟨rfl, rfl, Nat.le_refl _, (by omega : m ≤ n), s⟩
  | f + 1, m, h1, hf, s => by
    unfold kas_desc
    refine ⟨h.bel _ (by omega), h.bel _ (by omega), ?_⟩
    cases e : lt (p.getD m 0) (p.getD (m - 1) 0) with
    | true =>
      dsimp only
      rw [if_pos rfl, if_neg (Nat.lt_irrefl 0)]
      exact ok_mono (fun r z => ⟨z.1, z.2.1, Nat.le_of_succ_le z.2.2.1, z.2.2.2⟩) (desc_ok O h f (m + 1) (by omega) (by omega) (s.next O h h1 (by omega) e))
    | false =>
      dsimp only
      rw [if_neg (by simp)]
      have e' := O.tot _ _ (h.bel _ (by omega)) (h.bel _ (by omega)) (h.inj (i := m) (j := m - 1) (by omega) (by omega) (by omega)) e
      refine ⟨h.bel _ (by omega), h.bel _ (by omega), ?_⟩
      rw [e']
      dsimp only
      rw [if_pos rfl]
      exact ⟨rfl, rfl, Nat.le_refl _, (by omega : m ≤ n), s⟩
theorem Al.rev (h : Al n p) (m : Nat) : Al n (kas_rev p 0 m) := ((mirror_perm p 0 m _).toList).trans h
theorem G_rev {m : Nat} (hm : m ≤ p.size) (k : Nat) : G (kas_rev p 0 m) k = if k < m then G p (m - 1 - k) else G p k := by
  have e := getElem?_mirror_all (xs := p) (i := 0) hm k
  by_cases hk : k < m
  · rw [if_pos hk]
    rw [if_pos ⟨Nat.zero_le _, hk⟩] at e
    rw [show 0 + m - 1 - k = m - 1 - k by omega] at e
    exact G_cong e
  · rw [if_neg hk]
    rw [if_neg (fun z => hk z.2)] at e
    exact G_cong e
theorem rev_SP (h : Al n p) {m : Nat} (hm : m ≤ n) (d : DP lt p m) : SP lt (kas_rev p 0 m) m := by
  intro i j hij hj
  have hs := h.size
  rw [G_rev (by omega), G_rev (by omega), if_pos (by omega), if_pos hj]
  exact d _ _ (by omega) (by omega)
theorem tail3_ok (O : Ord n lt) (h : Al n p) {m : Nat} (h1 : 1 ≤ m) (hm : m ≤ n) (d : DP lt p m) : ok n lt (kas_tail3 m n p) (fun r => Al n r.2 ∧ 1 ≤ r.1 ∧ r.1 ≤ n ∧ SP lt r.2 r.1) := by
  unfold kas_tail3
  refine ok_bind (ok_mono (fun r z => ?_) (asc_ok O (h.rev m) (n - m) m h1 (by omega) (rev_SP h hm d)))
  exact ⟨h.rev m, by omega, z.2.1, z.2.2.1⟩
theorem count_ok (O : Ord n lt) (h : Al n p) (hn : 1 ≤ n) : ok n lt (kas_count n p) (fun r => Al n r.2 ∧ 1 ≤ r.1 ∧ r.1 ≤ n ∧ SP lt r.2 r.1) := by
  unfold kas_count
  refine ok_bind (ok_mono (fun r z => ?_) (asc_ok O h (n - 1) 1 (Nat.le_refl _) (by omega) SP.one))
  obtain ⟨z1, z2, z3, z4⟩ := z
  by_cases hr : r = n
  · subst hr
    simp only [beq_self_eq_true, if_true]
    exact ⟨h, z1, z2, z3⟩
  · have hb : (r == n) = false := by simp [hr]
    rw [hb, if_neg (by simp)]
    by_cases h1 : r > 1
    · rw [if_pos h1]
      refine ⟨h.bel _ (by omega), h.bel _ (by omega), ?_⟩
      have e : lt (p.getD 0 0) (p.getD (r - 1) 0) = true := z3 0 (r - 1) (by omega) (by omega)
      rw [e]
      dsimp only
      rw [if_pos rfl]
      exact ⟨h, z1, z2, z3⟩
    · rw [if_neg h1]
      have : r = 1 := by omega
      subst this
      unfold kas_descPart
      have d2 : DP lt p 2 := by
        intro i j hij hj
        have hi : i = 0 := by omega
        have hj' : j = 1 := by omega
        subst hi hj'
        exact z4 (by omega)
      refine ok_bind (ok_mono (fun r w => ?_) (desc_ok O h (n - (1 + 1)) (1 + 1) (by omega) (by omega) d2))
      obtain ⟨w1, w2, w3, w4, w5⟩ := w
      obtain ⟨r1, r2, r3⟩ := r
      dsimp only at w1 w2 w3 w4 w5 ⊢
      subst w1 w2
      rw [if_neg (Nat.lt_irrefl 0)]
      exact tail3_ok O h (by omega) w4 w5
theorem place_ok (O : Ord n lt) (h : Al n p) {k : Nat} (hk : k < n) : ∀ (f l r : Nat), r - l ≤ f → l ≤ r → r ≤ k → (∀ i, i < l → lt (G p i) (G p k) = true) → (∀ i, r ≤ i → i < k → lt (G p k) (G p i) = true) → SP lt p k →
    ok n lt (kas_place p k f l r) (fun m => m ≤ k ∧ (∀ i, i < m → lt (G p i) (G p k) = true) ∧ ∀ i, m ≤ i → i < k → lt (G p k) (G p i) = true)
  | 0, l, r, hf, hl, hr, a, b, s => by
    have : l = r := by omega
    subst this
    exact ⟨hr, a, b⟩
  | f + 1, l, r, hf, hl, hr, a, b, s => by
    unfold kas_place
    by_cases hlr : l ≥ r
    · rw [if_pos hlr]
      have : l = r := by omega
      subst this
      exact ⟨hr, a, b⟩
    · rw [if_neg hlr]
      refine ⟨h.bel _ (by omega), h.bel _ (by omega), ?_⟩
      have hm1 : l ≤ (l + r) / 2 := by omega
      have hm2 : (l + r) / 2 < r := by omega
      cases e : lt (p.getD k 0) (p.getD ((l + r) / 2) 0) with
      | true =>
        dsimp only
        rw [if_pos rfl]
        refine place_ok O h hk f l ((l + r) / 2) (by omega) hm1 (by omega) a (fun i hi1 hi2 => ?_) s
        by_cases hi : i = (l + r) / 2
        · subst hi; exact e
        · exact O.trn _ _ _ (h.bel _ (by omega)) (h.bel _ (by omega)) (h.bel _ (by omega)) e (s _ _ (by omega) hi2)
      | false =>
        dsimp only
        rw [if_neg (by simp)]
        have e' := O.tot _ _ (h.bel _ (by omega)) (h.bel _ (by omega)) (h.inj (i := k) (j := (l + r) / 2) hk (by omega) (by omega)) e
        refine place_ok O h hk f ((l + r) / 2 + 1) r (by omega) (by omega) hr (fun i hi => ?_) b s
        by_cases hi2 : i = (l + r) / 2
        · subst hi2; exact e'
        · exact O.trn _ _ _ (h.bel _ (by omega)) (h.bel _ (by omega)) (h.bel _ (by omega)) (s i ((l + r) / 2) (by omega) (by omega)) e'
theorem Al.bub (h : Al n p) (k d : Nat) : Al n (bubble p k d) := ((bubble_perm p k d).toList).trans h
theorem G_bub {k d : Nat} (hk : k < p.size) (hd : d ≤ k) (i : Nat) : G (bubble p k d) i = if i = k - d then G p k else if k - d < i ∧ i ≤ k then G p (i - 1) else G p i := by
  have e := getElem?_bubble hk d hd i
  by_cases h1 : i = k - d
  · rw [if_pos h1] at e ⊢; exact G_cong e
  · rw [if_neg h1] at e ⊢
    by_cases h2 : k - d < i ∧ i ≤ k
    · rw [if_pos h2] at e ⊢; exact G_cong e
    · rw [if_neg h2] at e ⊢; exact G_cong e
theorem bin_ok (O : Ord n lt) : ∀ (f k : Nat) (p : Array Nat), Al n p → k + f = n → SP lt p k → ok n lt (kas_bin f p k) (fun q => Al n q ∧ SP lt q n)
  | 0, k, p, h, hf, s => by
    have : k = n := by omega
    subst this
    exact ⟨h, s⟩
  | f + 1, k, p, h, hf, s => by
    unfold kas_bin
    refine ok_bind (ok_mono (fun m z => ?_) (place_ok O h (by omega) k 0 k (by omega) (Nat.zero_le _) (Nat.le_refl _) (fun i hi => by omega) (fun i h1 h2 => by omega) s))
    obtain ⟨z1, z2, z3⟩ := z
    refine bin_ok O f (k + 1) _ (h.bub k (k - m)) (by omega) ?_
    have hs := h.size
    intro i j hij hj
    rw [G_bub (by omega) (by omega), G_bub (by omega) (by omega)]
    have hkm : k - (k - m) = m := by omega
    rw [hkm]
    by_cases hi : i = m
    · rw [if_pos hi, if_neg (by omega), if_pos (by omega)]
      exact z3 _ (by omega) (by omega)
    · rw [if_neg hi]
      by_cases hj' : j = m
      · rw [if_pos hj', if_neg (by omega)]
        exact z2 _ (by omega)
      · rw [if_neg hj']
        by_cases hi3 : m < i ∧ i ≤ k
        · rw [if_pos hi3, if_pos (by omega)]
          exact s _ _ (by omega) (by omega)
        · rw [if_neg hi3]
          by_cases hj3 : m < j ∧ j ≤ k
          · rw [if_pos hj3]
            by_cases hij2 : i = j - 1
            · omega
            · exact s _ _ (by omega) (by omega)
          · rw [if_neg hj3]
            exact s _ _ hij (by omega)
theorem sort_ok (O : Ord n lt) (hn : 1 ≤ n) : ok n lt (kas_sort n) (fun q => Al n q ∧ SP lt q n) := by
  unfold kas_sort
  refine ok_bind (ok_mono (fun r z => ?_) (count_ok O (show Al n (List.toArray (List.range n)) from List.Perm.refl _) hn))
  obtain ⟨z1, z2, z3, z4⟩ := z
  by_cases hr : r.1 < n
  · rw [if_pos hr, show max r.1 1 = r.1 by omega]
    exact bin_ok O _ _ _ z1 (by omega) z4
  · rw [if_neg hr]
    have : r.1 = n := by omega
    rw [this] at z4
    exact ⟨z1, z4⟩
end
end SO

end
/-! DY2 -/
section
set_option Elab.async false
set_option linter.all false
set_option maxRecDepth 100000
set_option maxHeartbeats 2000000
/-! DL: sorted: the list that is made -/
namespace SO
open PySem PySem.W PyProof.Rows
theorem SP.pw {n : Nat} {lt : Nat → Nat → Bool} {p : Array Nat} (h : Al n p) (s : SP lt p n) : p.toList.Pairwise (fun i j => lt i j = true) := by
  rw [List.pairwise_iff_getElem]
  intro i j hi hj hij
  have hs := h.size
  simp only [Array.length_toList] at hi hj
  have := s i j hij (by omega)
  rw [G_eq i hi, G_eq j hj] at this
  simpa using this
section
variable {prog : Program} {w : World} {A : Around} {E : Value → Shared → Prop} {s : Shared}
/-- what stood stays, but at a -/
noncomputable abbrev KB (s : Shared) (a : Addr) (h' : Heap) : Prop := ∀ b o, b ≠ a → s.heap.get? b = some o → h'.get? b = some o
structure Cmp (prog : Program) (w : World) (s : Shared) (a : Addr) (vs : List Value) (κ : SortKind) (lt : Nat → Nat → Bool) : Prop where
  kind : 2 ≤ vs.length → ∀ (h' : Heap) (A : Around) (E : Value → Shared → Prop) (Q : SortKind → Shared → Prop), KB s a h' → Q κ { s with heap := h' } → wpAny (model prog w) A (keyKind' vs.toArray) Q E { s with heap := h' }
  less : 2 ≤ vs.length → ∀ (h' : Heap) (A : Around) (E : Value → Shared → Prop) (Q : Bool → Shared → Prop) (i j : Nat), KB s a h' → i < vs.length → j < vs.length → Q (lt i j) { s with heap := h' } → wpAny (model prog w) A (keyLt' κ (vs.getD i .none) (vs.getD j .none)) Q E { s with heap := h' }
/-- the end of the sort: the list is written anew -/
theorem fin_keep {g : Heap} {a : Addr} {e1 : Nat} {vs : List Value} {p : List Nat} {f : Bool → Sem PySem.Fin} {P : PySem.Fin → Shared → Prop} (hoa : g.get? a = some (seqObj "list" #[] e1)) (h64 : vs.length < 64) (hp : p.Perm (List.range vs.length))
    (k : ∀ h' c, (∀ b o, b ≠ a → g.get? b = some o → h'.get? b = some o) → h'.get? a = some (seqObj "list" (p.map fun i => vs.getD i .none).toArray c) → wpAny (model prog w) A (f false) P E { s with heap := h' }) :
    wpAny (model prog w) A (seqEpoch a >>= fun e => Builtin.List.listUpdate (.ref a) (fun _ => (p.map fun i => vs.getD i Value.none).toArray) >>= fun _ => f (e != e1)) P E { s with heap := g } := by
  have z : ((p.map fun i => vs.getD i Value.none).toArray).size ≤ sizeLine + 1 := by
    rw [List.size_toArray, List.length_map, hp.length_eq, List.length_range, sizeLine_eq]
    omega
  have s2 := Heap.SameBut.update g a (Obj.mapSeq fun _ => (p.map fun i => vs.getD i Value.none).toArray)
  refine wpAny_bind (seqEpoch_at hoa rfl (wpAny_bind (listUpdate_at hoa rfl ?_ (Nat.zero_le _) z)))
  rw [bne_self_eq_false]
  exact k _ _ (fun b o ne e => s2.extBut b o ne e) (get?_update_seq hoa fun _ => (p.map fun i => vs.getD i Value.none).toArray)
theorem list_sort_keep {a : Addr} {vs : List Value} {n0 : Nat} {κ : SortKind} {lt : Nat → Nat → Bool} {P : PySem.Fin → Shared → Prop} (ho : s.heap.get? a = some (seqObj "list" vs.toArray n0)) (h64 : vs.length < 64)
    (C : Cmp prog w s a vs κ lt) (O : Ord vs.length lt)
    (k : ∀ p : List Nat, p.Perm (List.range vs.length) → p.Pairwise (fun i j => lt i j = true) → ∀ h' c, KB s a h' → h'.get? a = some (seqObj "list" (p.map fun i => vs.getD i .none).toArray c) → P (.done (.ret .none)) { s with heap := h' }) :
    wpAny (model prog w) A (Builtin.«list.sort» ⟨[.ref a], []⟩) P E s := by
  have ha : a < s.heap.objs.size := Heap.lt_size ho
  have s1 := Heap.SameBut.update s.heap a (Obj.mapSeq fun _ => (#[] : Array Value))
  obtain ⟨e1, ho1⟩ : ∃ e1, (s.heap.update a (Obj.mapSeq fun _ => (#[] : Array Value))).get? a = some (seqObj "list" #[] e1) := ⟨_, get?_update_seq ho fun _ => #[]⟩
  have hk : KB s a (((s.heap.update a (Obj.mapSeq fun _ => (#[] : Array Value))).push (seqObj "tuple" vs.toArray 0)).push (seqObj "list" #[] 0)) := fun b o hb e =>
    Heap.get?_push_of_some _ (Heap.get?_push_of_some _ (s1.extBut b o hb e))
  have hoa : (((s.heap.update a (Obj.mapSeq fun _ => (#[] : Array Value))).push (seqObj "tuple" vs.toArray 0)).push (seqObj "list" #[] 0)).get? a = some (seqObj "list" #[] e1) := Heap.get?_push_of_some _ (Heap.get?_push_of_some _ ho1)
  rw [list_sort_plain]
  refine wpAny_bind (listItems_at ho rfl ?_)
  refine wpAny_bind (listUpdate_at ho rfl ?_ (by rw [List.size_toArray, sizeLine_eq]; omega) (Nat.zero_le _))
  refine wpAny_bind (seqEpoch_at ho1 rfl ?_)
  refine wpAny_bind (wpAny_newTuple ?_ (by show vs.length ≤ _; rw [sizeLine_eq]; omega))
  refine wpAny_bind (wpAny_newList ?_ (Nat.zero_le _))
  refine wpAny_holding ?_
  show wpAny (model prog w) A _ P E { s with heap := ((s.heap.update a (Obj.mapSeq fun _ => (#[] : Array Value))).push (seqObj "tuple" vs.toArray 0)).push (seqObj "list" #[] 0) }
  generalize hg : ((s.heap.update a (Obj.mapSeq fun _ => (#[] : Array Value))).push (seqObj "tuple" vs.toArray 0)).push (seqObj "list" #[] 0) = g at hk hoa
  dsimp only
  by_cases h2 : vs.length < 2
  · have hn2 : vs.toArray.size < 2 := by rw [List.size_toArray]; omega
    rw [if_pos hn2, if_pos hn2]
    refine wpAny_bind (wpAny_pure (wpAny_bind (wpAny_pure ?_)))
    have hm : (arrOf (SortSt.mk' general' (vs.toArray.zip vs.toArray) #[] 7 none)).map (·.2) = ((List.range vs.length).map fun i => vs.getD i Value.none).toArray := by
      show (vs.toArray.zip vs.toArray).map (·.2) = _
      match vs, h2 with
      | [], _ => simp
      | [v], _ => simp [List.range_succ]
    have hpw : (List.range vs.length).Pairwise (fun i j => lt i j = true) := by
      match vs, h2 with
      | [], _ => exact .nil
      | [v], _ => exact List.pairwise_singleton _ _
    have hf : failedOf (SortSt.mk' general' (vs.toArray.zip vs.toArray) #[] 7 none) = none := rfl
    dsimp only
    rw [hm]
    refine fin_keep (f := fun b => if b = true then _ else _) hoa h64 (List.Perm.refl _) fun h' c hb hc => ?_
    simp only [Bool.false_eq_true, if_false]
    exact wpAny_pure (k _ (List.Perm.refl _) hpw h' c (fun b o ne e => hb b o ne (hk b o ne e)) hc)
  · have hn2 : ¬ vs.toArray.size < 2 := by rw [List.size_toArray]; omega
    rw [if_neg hn2, if_neg hn2]
    refine wpAny_bind (C.kind (by omega) g A E _ hk ?_)
    refine wpAny_bind (wpAny_mono (kat_run (κ := κ) (ks := vs) (vs := vs) (G := fun p s' => Al vs.length p ∧ SP lt p vs.length ∧ s' = { s with heap := g }) (Q := fun st' s' => ∃ p : Array Nat, arrOf st' = p.map (kas_item (vs.toArray.zip vs.toArray)) ∧ failedOf st' = none ∧ Al vs.length p ∧ SP lt p vs.length ∧ s' = { s with heap := g })
      rfl (by omega) h64 (fun p st' s' _ h1 h2 h3 => ⟨p, h1, h2, h3⟩) ?_) ?_ fun _ _ e => e)
    · refine ok_wp (Q := fun p => Al vs.length p ∧ SP lt p vs.length) (fun i j D hi hj hD => ?_) (fun p z => ⟨z.1, z.2, rfl⟩) (sort_ok O (by omega))
      exact C.less (by omega) g A _ _ i j hk hi hj hD
    · rintro ⟨⟨⟩, st'⟩ s' ⟨p, har, hf, hA, hS, rfl⟩
      dsimp only
      rw [kat_snds rfl har, hf]
      refine fin_keep (f := fun b => if b = true then _ else _) hoa h64 hA fun h' c hb hc => ?_
      simp only [Bool.false_eq_true, if_false]
      exact wpAny_pure (k _ hA (hS.pw hA) h' c (fun b o ne e => hb b o ne (hk b o ne e)) hc)
end
end SO

end
/-! DY3 -/
section
set_option Elab.async false
set_option linter.all false
set_option maxRecDepth 100000
set_option maxHeartbeats 2000000
/-! DL: sorted of pairs of ints that are all apart -/
namespace DL
open PySem PySem.Spec PyProof.Rows L2 PySem.W
noncomputable def prD (p : Int × Int) : D := .tup [.int p.1, .int p.2]
noncomputable def pairsI : List D → Option (List (Int × Int))
  | [] => some []
  | .tup [.int a, .int b] :: ds => (pairsI ds).map ((a, b) :: ·)
  | _ :: _ => none
noncomputable def pltB (a b : Int × Int) : Bool := decide (a.1 < b.1 ∨ a.1 = b.1 ∧ a.2 < b.2)
noncomputable def pleB (a b : Int × Int) : Bool := decide (a.1 < b.1 ∨ a.1 = b.1 ∧ a.2 ≤ b.2)
noncomputable def srtP (ps : List (Int × Int)) : List (Int × Int) := ps.mergeSort pleB
noncomputable def sortF : List D → Sto → Out (List D)
  | [d], st => match seqL st d with
    | some xs => match pairsI xs with
      | some ps => if ps.Nodup ∧ ps.length < 64 then .ok ((srtP ps).map prD) st else .bad
      | none => .bad
    | none => .bad
  | _, _ => .bad
section
variable {X : Cx} {EX : EXT}
theorem vals_map {α : Type} {f : α → V} {g : α → Value} : ∀ (l : List α), (∀ i ∈ l, RelV (f i) (g i)) → Vals (l.map f) (l.map g)
  | [], _ => .nil
  | i :: l, h => .cons (h i (.head _)) (vals_map l fun j hj => h j (.tail _ hj))
theorem reps_map {α : Type} {K : PySem.W.Frag} {O : List Addr} {H : Hp} {f : α → D} {g : α → V} : ∀ (l : List α), (∀ i ∈ l, Rep K O H (f i) (g i)) → Reps K O H (l.map f) (l.map g)
  | [], _ => Reps.nil_i.mpr rfl
  | i :: l, h => Reps.cons_i.mpr ⟨_, _, rfl, h i (.head _), reps_map l fun j hj => h j (.tail _ hj)⟩
end
end DL
namespace DL
open PySem PySem.Spec PyProof.Rows L2
section
variable {X : Cx} {EX : EXT} {e : Expr} {pos : Pos}
theorem pdf_callB {x : Str} {p : Pos} {es : List Expr} {id : String} {g : List D → Sto → Out (List D)} {f : DA} (hc : CallF X EX (.builtin id) g) (hg : Gl X x) (hm : X.mg x = none) (hv : bootBuiltins x = some (.builtin id)) (ha : PDA X EX (e :: es) f) (hn : x ≠ "__name__" := by decide) (hdb : (x == ("__debug__" : Str)) = false := by decide)
    (he : starEach (e :: es) X.env = (false, eval e X.env) :: starEach es X.env := by rfl) (hpl : (backTo pos (starEach es X.env)).any (·.1) = false := by rfl) : PDF X EX (.Call (.Name x p) (e :: es) [] pos) (dCall g f) := PE.mono (pe_callB hc hg hm hv ha hn hdb he hpl) callF_imp
end
end DL

end
/-! DY4 -/
section
set_option Elab.async false
set_option linter.all false
set_option maxRecDepth 100000
set_option maxHeartbeats 2000000
/-! DL: methods of texts: startswith, endswith, split -/
namespace HT
open PySem PySem.Builtin PySem.Builtin.Str
section
variable {prog : Program} {w : World} {A : Around} {E : Value → Shared → Prop} {s : Shared} {x y : Str} {t u : Tok} {Q : Value → Shared → Prop}
end
end HT
namespace DL
open PySem PySem.Spec PyProof.Rows L2
section
variable {X : Cx} {EX : EXT} {o a e : Expr} {es : List Expr} {fo fa : DE} {g : DA} {cpos apos : Pos}
noncomputable def startsD : D → List D → Sto → Out D
  | .str x, [.str y], st => .ok (.bl (PySem.Txt.startswith x y)) st
  | _, _, _ => .bad
noncomputable def endsD : D → List D → Sto → Out D
  | .str x, [.str y], st => .ok (.bl (PySem.Txt.endswith x y)) st
  | _, _, _ => .bad
noncomputable def splitF : D → List D → Sto → Out (List D)
  | .str x, [.str y], st => if y.length ≠ 0 ∧ x.length ≤ small then .ok ((PySem.Txt.split x y).map .str) st else .bad
  | _, _, _ => .bad
noncomputable def dBMF (γ : D → List D → Sto → Out (List D)) (fo : DE) (f : DA) : DA := fun ρ st => (fo ρ st).bind fun d st1 => match d with
  | .str _ => (f ρ st1).bind fun ds st2 => γ d ds st2
  | _ => .bad
end
end DL
namespace DL
open PySem PySem.Spec PyProof.Rows L2
/-- inside a comprehension nothing may be raised -/
theorem xt_comp {X : Cx} {N : List Str} {scope : Scope} {acc : Addr} {fp : List Addr} {s3 : Shared} {H : Hp} : XT (cxC X N scope acc fp s3 H) EX0 := by
  refine ⟨?_, PassesOwn.never⟩
  rintro pins σ H s e s' I ⟨ea, C, a0, B, H', F, c, st, O, _, z⟩
  exact z
end DL

end
/-! LayD -/
section
set_option Elab.async false
set_option linter.all false
set_option maxRecDepth 100000
set_option Elab.async false
set_option linter.all false
set_option maxRecDepth 100000
namespace L2
open PySem PySem.Spec PyProof.Rows

end L2

namespace L2
open PySem PySem.Spec PyProof.Rows

section
variable (P : Program) (w : World)
end

section
variable {P : Program} {w : World} {H H' : Hp} {h h' : Heap} {a : Addr} {o : HO}
end

section
variable {P : Program} {w : World} {H : Hp} {h h' : Heap} {x e : Addr} {o' : HO}
end

section
variable {fs fs' ex ex' : List Addr} {H H1 H2 : Hp} {h h1 h2 h' : Heap} {a x e : Addr} {o : HO}
end

end L2

namespace L2
open PySem PySem.Spec PyProof.Rows

section
variable {X : Cx} {pins : List (Addr × Obj)} {σ : List (Option V)} {H H' : Hp} {s : Shared} {h' : Heap}

end

end L2

namespace L2
open PySem PySem.Spec PyProof.Rows
section
variable {X : Cx}

variable {a b : Expr} {ta tb : TE} {pos : Pos}
variable {tA tB' : TT} {rest : List Expr}
end
end L2

namespace L2
open PySem PySem.Spec PyProof.Rows

section
variable {X : Cx} {pins : List (Addr × Obj)} {σ : St} {H : Hp} {s : Shared} {a : Addr} {xs ys : List V}
end

section
variable {X : Cx} {pins : List (Addr × Obj)} {σ : St} {H : Hp} {s : Shared} {E : Value → Shared → Prop}
end

section
variable {X : Cx} {st : Stmt} {rest : List Stmt} {t u : TS} {e : Expr} {te : TE} {pos : Pos}
end

section
variable {X : Cx} {pos : Pos}
end

section
variable {X : Cx} {pos : Pos}
end

end L2

namespace L2
open PySem PySem.Spec PyProof.Rows
section
variable {X : Cx} {tg : Expr}
end

end L2

namespace L2
open PySem PySem.Spec PyProof.Rows

section
variable {X : Cx} {a b c : Expr} {ta tb tc : TE} {pos : Pos}

end

section
variable {X : Cx} {a b c : Expr} {ta tb tc : TE} {pos : Pos}
end
end L2

namespace L2
open PySem PySem.Spec PyProof.Rows

section
variable {prog : Program} {w : World} {A : Around} {E : Value → Shared → Prop} {s : Shared} {K : PySem.W.Frag} {x dx C f : Addr} {mA : Str → Option Value} {name : Str} {v : Value}

end

section
variable {P : Program} {w : World} {H H' : Hp} {h h' : Heap} {a C dx : Addr} {fs fs' : List (Str × V)}
end

section
variable {X : Cx} {pins : List (Addr × Obj)} {σ : St} {H : Hp} {s : Shared} {a C dx : Addr} {fs : List (Str × V)} {f : Str} {v : V} {A : Around} {E : Value → Shared → Prop}

end

section
variable {X : Cx} {o e value : Expr} {f : Str} {pos pos' tpos : Pos} {ta tv : TE}
end

section
variable {X : Cx} {pins : List (Addr × Obj)} {σ : St} {H : Hp} {s : Shared} {A : Around} {E : Value → Shared → Prop} {Q : Value → Shared → Prop} {c : Value} {b : Bool}
end
end L2

namespace L2
open PySem PySem.Spec PyProof.Rows

section
variable {X : Cx} {e : Expr} {es : List Expr} {te : TE} {t : TA} {pos : Pos}
end

section
variable {X : Cx} {pins : List (Addr × Obj)} {σ : St} {H : Hp} {s s' : Shared}
end

section
variable {X : Cx} {CX : CXT} {k : Nat} {f C : Addr} {fd : FuncData} {ps : List Str} {sp : Sp} {dvs : List V} {ds : List Value} {E : XK} {x m : Str} {p pos apos : Pos} {e o : Expr} {es : List Expr} {ta : TE} {t : TA}

end

section
variable {X : Cx} {CX : CXT} {k : Nat} {f C : Addr} {fd : FuncData} {ps ks : List Str} {sp : Sp} {E : XK} {x m : Str} {p pos apos kpos : Pos} {e o : Expr} {es : List Expr} {kws : List Keyword} {te ta : TE} {t tk : TA} {nm : Option Str}
variable {g : List Value → List Value → List Value} {gV : List V → List V → List V}
end

end L2

namespace L2
open PySem PySem.Spec PyProof.Rows
section
variable {X : Cx} {x : Str} {p pos : Pos} {e : Expr} {es : List Expr} {t : TA} {id T : String} {r : List V → Hp → VK → Prop}

end
end L2

namespace L2
open PySem PySem.Spec PyProof.Rows

section
variable {κ : Type} [DecidableEq κ]
noncomputable def valV (kvs : List (κ × V)) (k : κ) : Option V := (kvs.find? fun kv => decide (kv.1 = k)).map (·.2)
/-- in its place, or at the end -/
noncomputable def putK (kvs : List (κ × V)) (k : κ) (v : V) : List (κ × V) :=
  if (kvs.any fun kv => decide (kv.1 = k)) = true then kvs.map (fun kv => if kv.1 = k then (kv.1, v) else kv) else kvs ++ [(k, v)]
noncomputable def dropK (kvs : List (κ × V)) (k : κ) : List (κ × V) := kvs.filter fun kv => decide (kv.1 ≠ k)

theorem valV_pos {p : κ × V} {r : List (κ × V)} {k : κ} (e : p.1 = k) : valV (p :: r) k = some p.2 := by simp [valV, List.find?_cons, e]
theorem valV_neg {p : κ × V} {r : List (κ × V)} {k : κ} (e : ¬ p.1 = k) : valV (p :: r) k = valV r k := by simp [valV, List.find?_cons, e]
theorem valV_any (k : κ) : ∀ kvs : List (κ × V), (kvs.any fun kv => decide (kv.1 = k)) = (valV kvs k).isSome
  | [] => rfl
  | p :: r => by
    rw [List.any_cons]
    by_cases e : p.1 = k
    · simp only [valV_pos e, decide_eq_true e, Bool.true_or, Option.isSome_some]
    · rw [valV_neg e, decide_eq_false e, Bool.false_or]; exact valV_any k r
theorem length_putK (kvs : List (κ × V)) (k : κ) (v : V) : (putK kvs k v).length ≤ kvs.length + 1 := by
  unfold putK
  split
  · rw [List.length_map]; omega
  · rw [List.length_append, List.length_cons, List.length_nil]; omega
theorem RelO.isSome_eq {o : Option V} {u : Option Value} (r : RelO o u) : o.isSome = u.isSome := by
  cases o with
  | none => cases u with
    | none => rfl
    | some _ => exact (show False from r).elim
  | some _ => cases u with
    | none => exact (show False from r).elim
    | some _ => rfl
theorem RelO.getD {o : Option V} {u : Option Value} {d : V} {d' : Value} (r : RelO o u) (rd : RelV d d') : RelV (o.getD d) (u.getD d') := by
  cases o with
  | none => cases u with
    | none => exact rd
    | some _ => exact (show False from r).elim
  | some _ => cases u with
    | none => exact (show False from r).elim
    | some _ => exact r

/-- raw tables of the same keys -/
theorem KV.val {kvs : List (κ × V)} {vs : List (κ × Value)} (r : KV kvs vs) (k : κ) : RelO (valV kvs k) (valueAt vs k) := by
  unfold KV at r
  induction r with
  | nil => exact True.intro
  | @cons p q ps qs h t ih =>
    obtain ⟨h1, h2⟩ := h
    by_cases e : p.1 = k
    · have e' : q.1 = k := h1.symm.trans e
      have b : valueAt (q :: qs) k = some q.2 := by simp [valueAt, List.find?_cons, e']
      rw [valV_pos e, b]; exact h2
    · have e' : ¬ q.1 = k := fun z => e (h1.trans z)
      have b : valueAt (q :: qs) k = valueAt qs k := by simp [valueAt, List.find?_cons, e']
      rw [valV_neg e, b]; exact ih
theorem KV.any {kvs : List (κ × V)} {vs : List (κ × Value)} (r : KV kvs vs) (k : κ) : (kvs.any fun kv => decide (kv.1 = k)) = vs.any fun kv => decide (kv.1 = k) := by
  unfold KV at r
  induction r with
  | nil => rfl
  | cons h t ih => rw [List.any_cons, List.any_cons, ih, h.1]
theorem KV.repl {kvs : List (κ × V)} {vs : List (κ × Value)} (r : KV kvs vs) (k : κ) {y : V} {u : Value} (ry : RelV y u) :
    KV (kvs.map fun kv => if kv.1 = k then (kv.1, y) else kv) (vs.map fun kv => if kv.1 = k then (kv.1, u) else kv) := by
  unfold KV at r ⊢
  induction r with
  | nil => exact .nil
  | @cons p q ps qs h t ih =>
    rw [List.map_cons, List.map_cons]
    refine .cons ?_ ih
    obtain ⟨h1, h2⟩ := h
    by_cases e : p.1 = k
    · rw [if_pos e, if_pos (h1.symm.trans e)]; exact ⟨h1, ry⟩
    · rw [if_neg e, if_neg (fun z => e (h1.trans z))]; exact ⟨h1, h2⟩
theorem KV.put {kvs : List (κ × V)} {vs : List (κ × Value)} (r : KV kvs vs) (k : κ) {y : V} {u : Value} (ry : RelV y u) : KV (putK kvs k y) (stored vs k u) := by
  unfold putK stored
  rw [r.any k]
  by_cases e : (vs.any fun kv => decide (kv.1 = k)) = true
  · rw [if_pos e, if_pos e]; exact r.repl k ry
  · rw [if_neg e, if_neg e]; exact Paired.snoc r ⟨rfl, ry⟩
theorem KV.drop {kvs : List (κ × V)} {vs : List (κ × Value)} (r : KV kvs vs) (k : κ) : KV (dropK kvs k) (without vs k) := by
  unfold KV at r ⊢
  unfold dropK without
  induction r with
  | nil => exact .nil
  | @cons p q ps qs h t ih =>
    obtain ⟨h1, h2⟩ := h
    rw [List.filter_cons, List.filter_cons]
    by_cases e : p.1 = k
    · have a : ¬ decide (p.1 ≠ k) = true := by simp [e]
      have b : ¬ decide (q.1 ≠ k) = true := by simp [h1.symm.trans e]
      rw [if_neg a, if_neg b]; exact ih
    · have e' : ¬ q.1 = k := fun z => e (h1.trans z)
      have a : decide (p.1 ≠ k) = true := by simp [e]
      have b : decide (q.1 ≠ k) = true := by simp [e']
      rw [if_pos a, if_pos b]; exact .cons ⟨h1, h2⟩ ih
theorem KV.keys {kvs : List (κ × V)} {vs : List (κ × Value)} (r : KV kvs vs) : kvs.map (·.1) = vs.map (·.1) := by
  unfold KV at r
  induction r with
  | nil => rfl
  | cons h t ih => rw [List.map_cons, List.map_cons, ih, h.1]
theorem KV.length {kvs : List (κ × V)} {vs : List (κ × Value)} (r : KV kvs vs) : kvs.length = vs.length := Paired.length r
theorem dropK_le (kvs : List (κ × V)) (k : κ) : (dropK kvs k).length ≤ kvs.length := List.length_filter_le _ _
end


theorem kV_is {P : Program} {w : World} {k : Key} {u : Value} (r : RelV (kV k) u) : (mixKind P w).is k u = true := by
  cases k with
  | inl i => obtain ⟨t, e⟩ := (show ∃ t, u = Value.int i t from r); subst e; exact mixKind_int P w i t
  | inr x => obtain ⟨t, e⟩ := (show ∃ t, u = Value.str x t from r); subst e; exact mixKind_str P w x t
theorem items_are {P : Program} {w : World} : ∀ {ks : List Key} {us : List Value}, Vals (ks.map kV) us → ItemsAre (mixKind P w) ks us
  | [], _, r => by rw [List.map_nil] at r; cases r; exact .nil
  | k :: ks, _, r => by
    rw [List.map_cons] at r
    cases r with
    | cons h t => exact .cons (kV_is h) (items_are t)

/-- raw entries of a dict with tuple keys -/
noncomputable abbrev KT (H : Hp) : List (List Key × V) → List (List Key × Addr × Value) → Prop := Paired fun p q => p.1 = q.1 ∧ H q.2.1 = some (.tup (p.1.map kV)) ∧ RelV p.2 q.2.2
theorem KT.val {H : Hp} {kvs : List (List Key × V)} {xs : List (List Key × Addr × Value)} (r : KT H kvs xs) (k : List Key) : RelO (valV kvs k) ((atKey xs k).map (·.2)) := by
  induction r with
  | nil => exact True.intro
  | @cons p q ps qs h t ih =>
    obtain ⟨h1, _, h2⟩ := h
    by_cases e : p.1 = k
    · have e' : q.1 = k := h1.symm.trans e
      have b : atKey (q :: qs) k = some q.2 := by simp [atKey, List.find?_cons, e']
      rw [valV_pos e, b]; exact h2
    · have e' : ¬ q.1 = k := fun z => e (h1.trans z)
      have b : atKey (q :: qs) k = atKey qs k := by simp [atKey, List.find?_cons, e']
      rw [valV_neg e, b]; exact ih
theorem KT.repl {H : Hp} {kvs : List (List Key × V)} {xs : List (List Key × Addr × Value)} (r : KT H kvs xs) (k : List Key) {y : V} {u : Value} (ry : RelV y u) :
    KT H (kvs.map fun kv => if kv.1 = k then (kv.1, y) else kv) (xs.map (putAt k u)) := by
  induction r with
  | nil => exact .nil
  | @cons p q ps qs h t ih =>
    rw [List.map_cons, List.map_cons]
    refine .cons ?_ ih
    obtain ⟨h1, h2, h3⟩ := h
    unfold putAt
    by_cases e : p.1 = k
    · rw [if_pos e, if_pos (h1.symm.trans e)]; exact ⟨h1, h2, ry⟩
    · rw [if_neg e, if_neg (fun z => e (h1.trans z))]; exact ⟨h1, h2, h3⟩
theorem KT.put {H : Hp} {kvs : List (List Key × V)} {xs : List (List Key × Addr × Value)} (r : KT H kvs xs) (k : List Key) {b : Addr} {y : V} {u : Value} (hb : H b = some (.tup (k.map kV))) (ry : RelV y u) :
    KT H (putK kvs k y) (storedH xs k b u) := by
  have e : (kvs.any fun kv => decide (kv.1 = k)) = (atKey xs k).isSome := by
    rw [valV_any, (r.val k).isSome_eq, Option.isSome_map]
  unfold putK storedH
  rw [e]
  by_cases q : (atKey xs k).isSome = true
  · rw [if_pos q, if_pos q]; exact r.repl k ry
  · rw [if_neg q, if_neg q]; exact Paired.snoc r ⟨rfl, hb, ry⟩
theorem KT.keeps {H H' : Hp} {kvs : List (List Key × V)} {xs : List (List Key × Addr × Value)} (r : KT H kvs xs) (ht : ∀ b ys, H b = some (.tup ys) → H' b = some (.tup ys)) : KT H' kvs xs :=
  Paired.mapP r fun _ _ z => ⟨z.1, ht _ _ z.2.1, z.2.2⟩

section
variable {P : Program} {w : World} {H : Hp} {h : Heap} {a : Addr}
theorem rd_of {u : HO} (ok : HOk P w H h) (e : Rd H a u) : ObjOk P w H h a u := e.ok ok
theorem dk_rd {kvs : List (Key × V)} (ok : HOk P w H h) (e : Rd H a (.dK kvs)) : kvs.length ≤ sizeLine ∧ (a == sysModules) = false ∧ ∃ vs, KV kvs vs ∧ h.DictOf (mixKind P w) a vs :=
  show ObjOk P w H h a (.dK kvs) from rd_of ok e
theorem dk_of {kvs : List (Key × V)} (ok : HOk P w H h) (e : H a = some (.dK kvs)) : kvs.length ≤ sizeLine ∧ (a == sysModules) = false ∧ ∃ vs, KV kvs vs ∧ h.DictOf (mixKind P w) a vs := dk_rd ok (.inl e)
/-- a tracked tuple of ints and texts is a key -/
theorem key_of {ks : List Key} (ok : HOk P w H h) (e : H a = some (.tup (ks.map kV))) : (tupleKind (mixKind P w)).is h ks a := by
  obtain ⟨_, its, r, o, h1, h2, n, h3⟩ := (show ObjOk P w H h a (.tup (ks.map kV)) from ok a _ e)
  exact ⟨o, its.toArray, n, h1, h2, h3, by simpa using items_are r⟩
theorem dt_rd {kvs : List (List Key × V)} (ok : HOk P w H h) (e : Rd H a (.dT kvs)) : kvs.length ≤ sizeLine ∧ (a == sysModules) = false ∧
    ∃ xs, KT H kvs xs ∧ h.DictOfH (tupleKind (mixKind P w)) a xs := by
  obtain ⟨z, y, xs, r, o, es, ep, h1, h2, h3, h4, h5⟩ := (show ObjOk P w H h a (.dT kvs) from rd_of ok e)
  refine ⟨z, y, xs, r, o, es, ep, h1, h2, h3, h4, fun x hx => ?_, h5⟩
  have all : ∀ {l : List (List Key × V)} {m : List (List Key × Addr × Value)}, KT H l m → ∀ x ∈ m, (tupleKind (mixKind P w)).is h x.1 x.2.1 := by
    intro l m q
    induction q with
    | nil => intro x hx; exact nomatch hx
    | @cons p q ps qs hq t ih =>
      intro x hx
      rcases List.mem_cons.mp hx with e | hx
      · subst e
        exact key_of ok (by rw [← hq.1]; exact hq.2.1)
      · exact ih x hx
  exact all r x hx
theorem dt_of {kvs : List (List Key × V)} (ok : HOk P w H h) (e : H a = some (.dT kvs)) : kvs.length ≤ sizeLine ∧ (a == sysModules) = false ∧
    ∃ xs, KT H kvs xs ∧ h.DictOfH (tupleKind (mixKind P w)) a xs := dt_rd ok (.inl e)
end

/-- what the dict at a holds at the key y -/
noncomputable def DGet (H : Hp) (a : Addr) (y : V) (r : Option V) : Prop :=
  (∃ kvs k, Rd H a (.dK kvs) ∧ y = kV k ∧ r = valV kvs k) ∨ ∃ kvs k b, Rd H a (.dT kvs) ∧ y = .ref b ∧ H b = some (.tup (k.map kV)) ∧ r = valV kvs k
/-- the heap behind a[y] = v -/
noncomputable def DPut (H : Hp) (a : Addr) (y v : V) (H' : Hp) : Prop :=
  (∃ kvs k, H a = some (.dK kvs) ∧ y = kV k ∧ kvs.length < sizeLine ∧ H' = upd H a (.dK (putK kvs k v))) ∨
  ∃ kvs k b, H a = some (.dT kvs) ∧ y = .ref b ∧ H b = some (.tup (k.map kV)) ∧ kvs.length < sizeLine ∧ H' = upd H a (.dT (putK kvs k v))
theorem DGet.k {H : Hp} {a : Addr} {kvs : List (Key × V)} {k : Key} (e : H a = some (.dK kvs)) : DGet H a (kV k) (valV kvs k) := .inl ⟨kvs, k, .inl e, rfl, rfl⟩
theorem DGet.t {H : Hp} {a b : Addr} {kvs : List (List Key × V)} {k : List Key} (e : H a = some (.dT kvs)) (eb : H b = some (.tup (k.map kV))) : DGet H a (.ref b) (valV kvs k) := .inr ⟨kvs, k, b, .inl e, rfl, eb, rfl⟩
theorem DPut.k {H : Hp} {a : Addr} {kvs : List (Key × V)} {k : Key} {v : V} (e : H a = some (.dK kvs)) (hl : kvs.length < sizeLine) : DPut H a (kV k) v (upd H a (.dK (putK kvs k v))) := .inl ⟨kvs, k, e, rfl, hl, rfl⟩
theorem DPut.t {H : Hp} {a b : Addr} {kvs : List (List Key × V)} {k : List Key} {v : V} (e : H a = some (.dT kvs)) (eb : H b = some (.tup (k.map kV))) (hl : kvs.length < sizeLine) :
    DPut H a (.ref b) v (upd H a (.dT (putK kvs k v))) := .inr ⟨kvs, k, b, e, rfl, eb, hl, rfl⟩


section
variable {X : Cx} {pins : List (Addr × Obj)} {σ : St} {H : Hp} {s : Shared} {a : Addr} {y v : V} {u r : Value} {o : Option V} {A : Around} {E : Value → Shared → Prop}

theorem Inv.big (I : Inv X pins σ H s) : sysModules < s.heap.objs.size := by
  have h : mainGlobals < s.heap.objs.size := (I.mod.glob.keeps I.bk).lt
  exact Nat.lt_trans (by decide) h

/-- d[y], there -/
theorem d_getItem {Q : Value → Shared → Prop} (hu : A.units + 1 < cLine) (I : Inv X pins σ H s) (g : DGet H a y (some v)) (ry : RelV y u) (h : ∀ w' s', Inv X pins σ H s' → RelV v w' → Q w' s') :
    wpAny (model X.prog X.w) A (getItem (.ref a) u) Q E s := by
  rcases g with ⟨kvs, k, e, ey, l⟩ | ⟨kvs, k, b, e, ey, eb, l⟩
  · subst ey
    obtain ⟨z, hd, vs, rel, dd⟩ := dk_rd I.hok e
    obtain ⟨w', hw, rw'⟩ := RelO.some_of (v := v) (o := valueAt vs k) (by rw [l]; exact rel.val k)
    exact wpAny_getItem_of (kV_is ry) dd.mapOf hw (h w' _ (I.tok _) rw')
  · subst ey
    cases (show u = Value.ref b from ry)
    obtain ⟨z, hd, xs, rel, dd⟩ := dt_rd I.hok e
    obtain ⟨w', hw, rw'⟩ := RelO.some_of (v := v) (o := (atKey xs k).map (·.2)) (by rw [l]; exact rel.val k)
    obtain ⟨p, hp, hp2⟩ := Option.map_eq_some_iff.mp hw
    refine wpAny_getItem_heap (tupleKind_room_in1 hu) (key_of I.hok eb) dd hp ?_
    rw [hp2]
    exact h w' _ (I.tok _) rw'
/-- y in d -/
theorem d_in {Q : Value → Shared → Prop} (hu : A.units + 1 < cLine) (I : Inv X pins σ H s) (g : DGet H a y o) (ry : RelV y u) (h : ∀ s', Inv X pins σ H s' → Q (.bool o.isSome) s') :
    wpAny (model X.prog X.w) A (compareOp .In u (.ref a)) Q E s := by
  rcases g with ⟨kvs, k, e, ey, l⟩ | ⟨kvs, k, b, e, ey, eb, l⟩
  · subst ey
    obtain ⟨z, hd, vs, rel, dd⟩ := dk_rd I.hok e
    refine wpAny_in_of (kV_is ry) hd dd.mapOf ?_
    rw [← (rel.val k).isSome_eq, ← l]
    exact h _ (I.tok _)
  · subst ey
    cases (show u = Value.ref b from ry)
    obtain ⟨z, hd, xs, rel, dd⟩ := dt_rd I.hok e
    refine wpAny_in_heap (tupleKind_room_in1 hu) (key_of I.hok eb) hd dd ?_
    have q := (rel.val k).isSome_eq
    rw [Option.isSome_map] at q
    rw [← q, ← l]
    exact h _ (I.tok _)
theorem d_notIn {Q : Value → Shared → Prop} (hu : A.units + 1 < cLine) (I : Inv X pins σ H s) (g : DGet H a y o) (ry : RelV y u) (h : ∀ s', Inv X pins σ H s' → Q (.bool (!o.isSome)) s') :
    wpAny (model X.prog X.w) A (compareOp .NotIn u (.ref a)) Q E s := by
  rcases g with ⟨kvs, k, e, ey, l⟩ | ⟨kvs, k, b, e, ey, eb, l⟩
  · subst ey
    obtain ⟨z, hd, vs, rel, dd⟩ := dk_rd I.hok e
    refine wpAny_notIn_of (kV_is ry) hd dd.mapOf ?_
    rw [← (rel.val k).isSome_eq, ← l]
    exact h _ (I.tok _)
  · subst ey
    cases (show u = Value.ref b from ry)
    obtain ⟨z, hd, xs, rel, dd⟩ := dt_rd I.hok e
    refine wpAny_notIn_heap (tupleKind_room_in1 hu) (key_of I.hok eb) hd dd ?_
    have q := (rel.val k).isSome_eq
    rw [Option.isSome_map] at q
    rw [← q, ← l]
    exact h _ (I.tok _)
/-- a dict's object is replaced -/
theorem d_write {h' : Heap} {t' : Nat} {ob : HO} (I : Inv X pins σ H s) (mu : Mut (H a)) (hs : Heap.SameBut a s.heap h') (he : ∃ q, h'.get? a = some q) (new : ObjOk X.prog X.w (upd H a ob) h' a ob) :
    Inv X pins σ (upd H a ob) { s with heap := h', toks := t' } :=
  I.write (x := a) (e := a) mu (.inl rfl) (fun b q hb z => (hs.2 b hb).trans z) he new
theorem dk_new {P : Program} {w : World} {H' : Hp} {h' : Heap} {kvs : List (Key × V)} {vs : List (Key × Value)} (z : kvs.length ≤ sizeLine) (hd : (a == sysModules) = false) (rel : KV kvs vs) (dd : h'.DictOf (mixKind P w) a vs) :
    ObjOk P w H' h' a (.dK kvs) := ⟨z, hd, vs, rel, dd⟩
/-- d[y] = v -/
theorem d_setItem {H' : Hp} {Q : Unit → Shared → Prop} (hu : A.units + 1 < cLine) (I : Inv X pins σ H s) (g : DPut H a y v H') (ry : RelV y u) (rv : RelV v r) (h : ∀ s', Inv X pins σ H' s' → Q () s') :
    wpAny (model X.prog X.w) A (setItem (.ref a) u r) Q E s := by
  rcases g with ⟨kvs, k, e, ey, l, eH⟩ | ⟨kvs, k, b, e, ey, eb, l, eH⟩
  · subst ey eH
    obtain ⟨z, hd, vs, rel, dd⟩ := dk_of I.hok e
    have hz : vs.length ≤ sizeLine := by rw [← rel.length]; exact z
    have hl : (putK kvs k v).length ≤ sizeLine := by have := length_putK kvs k v; omega
    refine wpAny_setItem_pairs (hsz := hz) (kV_is ry) dd fun h' dd' hs => h _ ?_
    have he : ∃ q, h'.get? a = some q := let ⟨q, _, _, hq, _⟩ := dd'; ⟨q, hq⟩
    exact d_write I (by rw [e]; exact True.intro) hs he (dk_new hl hd (rel.put k rv) dd')
  · subst ey eH
    cases (show u = Value.ref b from ry)
    obtain ⟨z, hd, xs, rel, dd⟩ := dt_of I.hok e
    have hz : xs.length ≤ sizeLine := by rw [← Paired.length rel]; exact z
    have hl : (putK kvs k v).length ≤ sizeLine := by have := length_putK kvs k v; omega
    refine wpAny_setItem_heap (hsz := hz) (tupleKind_room_in1 hu) (key_of I.hok eb) dd fun h' dd' hs => h _ ?_
    obtain ⟨q, es, ep, hq, h2, h3, h4, _, h5⟩ := dd'
    refine d_write I (by rw [e]; exact True.intro) hs ⟨q, hq⟩ ⟨hl, hd, _, (rel.put k eb rv).keeps fun c ys ec => ?_, q, es, ep, hq, h2, h3, h4, h5⟩
    rw [upd_ne (ne_of ec e (fun z => nomatch z))]
    exact ec
end

section
variable {X : Cx} {pins : List (Addr × Obj)} {σ : St} {H : Hp} {s : Shared} {a : Addr} {kvs : List (Key × V)} {k : Key} {u : Value} {A : Around} {E : Value → Shared → Prop}
/-- d.pop(k[, x]), there -/
theorem d_pop {v : V} {more : List Value} {Q : Value → Shared → Prop} (I : Inv X pins σ H s) (e : H a = some (.dK kvs)) (ry : RelV (kV k) u) (l : valV kvs k = some v) (hm : more = [] ∨ ∃ x, more = [x])
    (h : ∀ w' s', Inv X pins σ (upd H a (.dK (dropK kvs k))) s' → RelV v w' → Q w' s') : wpAny (model X.prog X.w) A (call (.builtin "dict.pop") (.ref a :: u :: more)) Q E s := by
  obtain ⟨z, hd, vs, rel, dd⟩ := dk_of I.hok e
  obtain ⟨w', hw, rw'⟩ := RelO.some_of (v := v) (o := valueAt vs k) (by rw [← l]; exact rel.val k)
  have hp : (keyPart u).isSome = true := by
    cases k with
    | inl i => obtain ⟨t, q⟩ := (show ∃ t, u = Value.int i t from ry); subst q; rfl
    | inr x => obtain ⟨t, q⟩ := (show ∃ t, u = Value.str x t from ry); subst q; rfl
  have ha : argsOk "dict.pop" ⟨.ref a :: u :: more, []⟩ := by
    rcases hm with q | ⟨x, q⟩
    · subst q; exact PySem.F.args_dict_pop_2 _ _
    · subst q; exact PySem.F.args_dict_pop_3 _ _ _
  refine call_meetsIn PySem.F.slot_dict_pop dd.typeIs PySem.F.entry_dict_pop ha (meets_dict_pop_there (mixKind X.prog X.w) a (kV_is ry) more hm hp)
    ⟨vs, w', dd, by rw [← rel.length]; exact z, hw, fun h' dd' hs => h w' _ ?_ rw'⟩
  have he : ∃ q, h'.get? a = some q := let ⟨q, _, _, hq, _⟩ := dd'; ⟨q, hq⟩
  exact d_write I (by rw [e]; exact True.intro) hs he (dk_new (Nat.le_trans (dropK_le kvs k) z) hd (rel.drop k) dd')
/-- len(d) -/
theorem d_len {Q : Value → Shared → Prop} (I : Inv X pins σ H s) (e : Rd H a (.dK kvs)) (h : ∀ t s', Inv X pins σ H s' → Q (.int kvs.length t) s') : wpAny (model X.prog X.w) A (call (.builtin "len") [.ref a]) Q E s := by
  obtain ⟨z, hd, vs, rel, dd⟩ := dk_rd I.hok e
  refine call_len_dict hd dd (by rw [← rel.length]; rw [sizeLine_eq] at z; omega) ?_
  rw [← rel.length]
  exact h _ _ (I.tok _)
end


/-- the element of a subscription, not a slice -/
noncomputable def NoSl (i : Expr) : Prop := ∀ ov iv, subscripted i false ov iv = operate [ov, iv] (getItem ov iv)
theorem subD_of {prog : Program} {w : World} {A : Around} {E : Value → Shared → Prop} {s : Shared} {env : Env} {value slice : Expr} {pos : Pos} {T id : String} {Q : Value → Shared → Prop}
    (hl : typeLookup (.type T) "__getitem__" = pure (some (.builtin id))) (hs : NoSl slice)
    (h : wpAny (model prog w) A (eval value env) (fun o s₁ => wpAny (model prog w) A (eval slice env) (fun i s₂ => s₂.TypeIs o T ∧ wpAny (model prog w) A (getItem o i) Q E s₂) E s₁) E s) :
    wpAny (model prog w) A (eval (.Subscript value slice pos) env) Q E s := by
  refine Subscript_ (wpAny_mono h (fun o s₁ h₁ => wpAny_mono h₁ (fun i s₂ h₂ => ?_) fun _ _ x => x) fun _ _ x => x)
  obtain ⟨hT, h₂⟩ := h₂
  unfold subscriptTail
  refine wpAny_bind ?_
  rw [getitemInPython_of_ne hT.not_modules]
  refine wpAny_bind (wpAny_specialOf hT hl ?_)
  have fin : wpAny (model prog w) A (subscripted slice false o i) (fun r s₃ => wpAny (model prog w) A (letTemporaryGo value o r >>= fun _ => pure r) Q E s₃) E s₂ := by
    rw [hs o i]
    exact wpAny_operating (wpAny_mono h₂ (fun r s₃ h₃ => wpAny_bind (wpAny_letTemporaryGo (wpAny_pure h₃))) fun _ _ x => x)
  first
    | exact wpAny_pure (wpAny_bind fin)
    | exact wpAny_bind (wpAny_pure (wpAny_bind fin))
    | exact wpAny_bind fin

theorem dict_typeIs {X : Cx} {pins : List (Addr × Obj)} {σ : St} {H : Hp} {s : Shared} {a : Addr} {y : V} {o : Option V} (I : Inv X pins σ H s) (g : DGet H a y o) : s.TypeIs (.ref a) "dict" := by
  rcases g with ⟨kvs, k, e, _, _⟩ | ⟨kvs, k, b, e, _, _, _⟩
  · obtain ⟨_, _, vs, _, dd⟩ := dk_rd I.hok e
    exact dd.typeIs
  · obtain ⟨_, _, xs, _, dd⟩ := dt_rd I.hok e
    exact dd.typeIs
/-- d[y] -/
noncomputable def tDGet (td ty : TE) : TE := fun σ H Q => td σ H fun x H1 => ty σ H1 fun y H2 => ∃ a v, x = .ref a ∧ DGet H2 a y (some v) ∧ Q v H2
/-- y in d, y not in d -/
noncomputable def tDIn (ty td : TE) : TE := fun σ H Q => ty σ H fun y H1 => td σ H1 fun x H2 => ∃ a o, x = .ref a ∧ DGet H2 a y o ∧ Q (.bl o.isSome) H2
noncomputable def tDNotIn (ty td : TE) : TE := fun σ H Q => ty σ H fun y H1 => td σ H1 fun x H2 => ∃ a o, x = .ref a ∧ DGet H2 a y o ∧ Q (.bl (!o.isSome)) H2
/-- d[y] = v -/
noncomputable def sDPut (td ty tv : TE) : TS := fun D σ H => tv σ H fun v H1 => td σ H1 fun x H2 => ty σ H2 fun y H3 => ∃ a H4, x = .ref a ∧ DPut H3 a y v H4 ∧ D.nx σ H4
/-- d[y] op= v -/
noncomputable def sDAug (td ty tv : TE) (rd : V → V → Hp → VK → Prop) : TS := fun D σ H => td σ H fun x H1 => ty σ H1 fun y H2 => ∃ a v, x = .ref a ∧ DGet H2 a y (some v) ∧
  tv σ H2 fun y2 H3 => rd v y2 H3 fun z H4 => ∃ H5, DPut H4 a y z H5 ∧ D.nx σ H5
/-- del d[y] -/
noncomputable def sDDel (td ty : TE) : TS := fun D σ H => td σ H fun x H1 => ty σ H1 fun y H2 => ∃ a kvs k, x = .ref a ∧ H2 a = some (.dK kvs) ∧ y = kV k ∧ (valV kvs k).isSome = true ∧ D.nx σ (upd H2 a (.dK (dropK kvs k)))

section
variable {X : Cx} {o i e value : Expr} {pos pos' tpos : Pos} {td ty tv : TE}
theorem pe_dget (hu : X.A.units + 1 < cLine) (ho : PE X o td) (hi : PE X i ty) (hs : NoSl i) : PE X (.Subscript o i pos) (tDGet td ty) := by
  intro pins s σ H Q I h
  refine subD_of PySem.F.slot_dict_getitem.lookup hs (thn (ho pins s σ H _ I h) fun u s1 ⟨x, H1, I1, rx, q1⟩ => thn (hi pins s1 σ H1 _ I1 q1) fun iv s2 ⟨y, H2, I2, ry, a, v, ex, g, q2⟩ => ?_)
  subst ex
  obtain rfl : u = Value.ref a := rx
  exact ⟨dict_typeIs I2 g, d_getItem hu I2 g ry fun w' s3 I3 rw' => ⟨v, H2, I3, rw', q2⟩⟩
theorem ps_dput (hu : X.A.units + 1 < cLine) (ho : PE X o td) (hi : PE X i ty) (hv : PE X value tv) (hs : swapsWith value (some (.Subscript o i pos')) pos.line X.env = pure false) :
    PS X (.Assign [.Subscript o i pos'] value pos) (sDPut td ty tv) := by
  intro pins s σ H D I h
  refine wpAny_Assign_Subscript (thn (hv pins s σ H _ I h) fun r s1 ⟨v, H1, I1, rv, q1⟩ => thn (ho pins s1 σ H1 _ I1 q1) fun u s2 ⟨x, H2, I2, rx, q2⟩ => thn (hi pins s2 σ H2 _ I2 q2) fun iv s3 ⟨y, H3, I3, ry, a, H4, ex, g, q3⟩ => ?_) hs
  subst ex
  obtain rfl : u = Value.ref a := rx
  exact d_setItem hu I3 g ry rv fun s4 I4 => ⟨σ, H4, I4, q3⟩
end


theorem dk_empty {P : Program} {w : World} {H : Hp} (h : Heap) (hb : sysModules < h.objs.size) : ObjOk P w H (h.push { cls := .type "dict", data := .dict #[] }) h.objs.size (.dK []) :=
  ⟨Nat.zero_le _, beq_eq_false_iff_ne.mpr (Ne.symm (Nat.ne_of_lt hb)), [], .nil, Heap.DictOf.new h⟩
/-- {}, to be a dict of the kind that is wanted -/
noncomputable def tDNewK : TE := fun _ H Q => ∀ p, H p = none → Q (.ref p) (upd H p (.dK []))
noncomputable def tDNewT : TE := fun _ H Q => ∀ p, H p = none → Q (.ref p) (upd H p (.dT []))
section
variable {X : Cx} {pos : Pos}
theorem pe_dnewK : PE X (.Dict [] [] pos) tDNewK := fun pins s σ H Q I h =>
  wpAny_Dict_empty ⟨.ref s.heap.objs.size, _, I.laid (a := s.heap.objs.size) (o := .dK []) (t' := s.toks) (fun _ _ q => Heap.get?_push_of_some _ q) (Nat.le_refl _) (dk_empty s.heap I.big), rfl, h _ (I.hok.fresh (Nat.le_refl _))⟩
end

/-- the pairs of a display, from the left -/
noncomputable def tPairs : List (TE × TE) → St → Hp → (List (V × V) → Hp → Prop) → Prop
  | [], _, H, Q => Q [] H
  | (tk, tv) :: r, σ, H, Q => tk σ H fun x H1 => tv σ H1 fun y H2 => tPairs r σ H2 fun ps H3 => Q ((x, y) :: ps) H3
noncomputable abbrev VV : List (V × V) → List (Value × Value) → Prop := Paired fun p q => RelV p.1 q.1 ∧ RelV p.2 q.2
noncomputable def PPs (X : Cx) (pos : Pos) (keys : List (Option Expr)) (values : List Expr) (trs : List (TE × TE)) : Prop :=
  ∀ (pins : List (Addr × Obj)) (s : Shared) (σ : St) (H : Hp) (Q : List (V × V) → Hp → Prop), Inv X pins σ H s → tPairs trs σ H Q →
    wpAny (model X.prog X.w) X.A (evalPairs (pairTrees keys values X.env pos)) (fun vs s' => ∃ ps H', Inv X pins σ H' s' ∧ VV ps vs ∧ Q ps H') X.xe s
noncomputable def mergeK (kvs more : List (Key × V)) : List (Key × V) := more.foldl (fun acc kv => putK acc kv.1 kv.2) kvs
/-- {k: v, ..} with keys ints and texts; the new dict stands empty while the pairs are made -/
noncomputable def tDisp (trs : List (TE × TE)) : TE := fun σ H Q => ∀ p, H p = none → tPairs trs σ (upd H p (.dK [])) fun ps H2 => H2 p = some (.dK []) ∧ ∃ kvs : List (Key × V), ps = kvs.map (fun kv => (kV kv.1, kv.2)) ∧ kvs.length ≤ 15 ∧ Q (.ref p) (upd H2 p (.dK (mergeK [] kvs)))
/-- a method call o.m(e) of a built-in, with one argument: what must be seen of the text -/
structure M1 (X : Cx) (o : Expr) (m : Str) (apos : Pos) (e : Expr) (cpos : Pos) : Prop where
  base : attributeBase o m X.env (eval o X.env) = eval o X.env
  few : ((backTo cpos (starEach [e] X.env)).all (fun x => !x.1) && (backToKw cpos (keywordEach [] X.env)).all (fun x => x.1.isSome)
    && decide (([e] : List Expr).length + ([] : List Keyword).length + (if ([] : List Keyword).isEmpty then 0 else 1) < 30)) = true
  line : (apos.endLine == cpos.line) = true
  trees : backTo cpos (starEach [e] X.env) = [(false, eval e X.env)]
structure M2 (X : Cx) (o : Expr) (m : Str) (apos : Pos) (e f : Expr) (cpos : Pos) : Prop where
  base : attributeBase o m X.env (eval o X.env) = eval o X.env
  few : ((backTo cpos (starEach [e, f] X.env)).all (fun x => !x.1) && (backToKw cpos (keywordEach [] X.env)).all (fun x => x.1.isSome)
    && decide (([e, f] : List Expr).length + ([] : List Keyword).length + (if ([] : List Keyword).isEmpty then 0 else 1) < 30)) = true
  line : (apos.endLine == cpos.line) = true
  trees : backTo cpos (starEach [e, f] X.env) = [(false, eval e X.env), (false, eval f X.env)]

/-- a is a dict, whatever its keys -/
noncomputable def IsD (H : Hp) (a : Addr) : Prop := (∃ kvs, Rd H a (.dK kvs)) ∨ ∃ kvs, Rd H a (.dT kvs)
theorem isD_at {X : Cx} {pins : List (Addr × Obj)} {σ : St} {H : Hp} {s : Shared} {a : Addr} (I : Inv X pins σ H s) (d : IsD H a) :
    s.TypeIs (.ref a) "dict" ∧ (∀ b, Value.ref a = .ref b → ∃ ob, s.heap.get? b = some ob ∧ ob.dict = none) ∧ (a == sysModules) = false := by
  rcases d with ⟨kvs, e⟩ | ⟨kvs, e⟩
  · obtain ⟨_, hd, vs, _, dd⟩ := dk_rd I.hok e
    refine ⟨dd.typeIs, fun b q => ?_, hd⟩
    cases q
    obtain ⟨ob, _, _, h1, h2, _⟩ := dd
    exact ⟨ob, h1, h2.2.1⟩
  · obtain ⟨_, hd, xs, _, dd⟩ := dt_rd I.hok e
    refine ⟨dd.typeIs, fun b q => ?_, hd⟩
    cases q
    obtain ⟨ob, _, _, h1, h2, _⟩ := dd
    exact ⟨ob, h1, h2.2.1⟩

section
variable {X : Cx} {pins : List (Addr × Obj)} {σ : St} {H : Hp} {s : Shared} {a : Addr} {y d : V} {u r : Value} {o : Option V} {A : Around} {E : Value → Shared → Prop}
end

noncomputable def tDGet1 (td ty : TE) : TE := fun σ H Q => td σ H fun x H1 => ∃ a, x = .ref a ∧ IsD H1 a ∧ ty σ H1 fun y H2 => ∃ o, DGet H2 a y o ∧ Q (o.getD .non) H2
noncomputable def tDGet2 (td ty tx : TE) : TE := fun σ H Q => td σ H fun x H1 => ∃ a, x = .ref a ∧ IsD H1 a ∧ ty σ H1 fun y H2 => tx σ H2 fun z H3 => ∃ o, DGet H3 a y o ∧ Q (o.getD z) H3
/-- d.pop(k): there; d.pop(k, x): there or not -/
noncomputable def tDPop1 (td ty : TE) : TE := fun σ H Q => td σ H fun x H1 => ∃ a, x = .ref a ∧ IsD H1 a ∧ ty σ H1 fun y H2 => ∃ kvs k v, H2 a = some (.dK kvs) ∧ y = kV k ∧ valV kvs k = some v ∧ Q v (upd H2 a (.dK (dropK kvs k)))
noncomputable def tDPop2 (td ty tx : TE) : TE := fun σ H Q => td σ H fun x H1 => ∃ a, x = .ref a ∧ IsD H1 a ∧ ty σ H1 fun y H2 => tx σ H2 fun z H3 => ∃ kvs k, H3 a = some (.dK kvs) ∧ y = kV k ∧
  (∀ v, valV kvs k = some v → Q v (upd H3 a (.dK (dropK kvs k)))) ∧ (valV kvs k = none → Q z H3)
section
variable {X : Cx} {o e f : Expr} {apos cpos : Pos} {td ty tx : TE}
theorem pe_dpop1 (ho : PE X o td) (he : PE X e ty) (m : M1 X o "pop" apos e cpos) : PE X (.Call (.Attribute o "pop" apos) [e] [] cpos) (tDPop1 td ty) := by
  intro pins s σ H Q I h
  refine wpAny_Call_method m.base m.few m.line PySem.F.plainAttrs_dict PySem.F.slot_dict_pop PySem.F.type_dict_pop (thn (ho pins s σ H _ I h) fun u s1 ⟨x, H1, I1, rx, a, ex, d, q1⟩ => ?_)
  subst ex
  obtain rfl : u = Value.ref a := rx
  obtain ⟨t1, t2, _⟩ := isD_at I1 d
  refine ⟨t1, t2, ?_⟩
  rw [m.trees]
  refine Calls.callWith_builtin rfl (Calls.evalArgs_plain (Calls.spliced_cons (thn (he pins s1 σ H1 _ I1 q1) fun iv s2 ⟨y, H2, I2, ry, kvs, k, v, ea, ey, l, q2⟩ => Calls.spliced_nil ?_)))
  subst ey
  exact d_pop I2 ea ry l (.inl rfl) fun w' s3 I3 rw' => ⟨v, _, I3, rw', q2⟩
end

section
variable {X : Cx} {pins : List (Addr × Obj)} {σ : St} {H : Hp} {s : Shared} {a : Addr} {kvs : List (Key × V)} {A : Around} {E : Value → Shared → Prop}
end


section
variable {X : Cx} {pins : List (Addr × Obj)} {σ : St} {H : Hp} {s : Shared} {a : Addr} {y : V} {u : Value} {A : Around} {E : Value → Shared → Prop}
end
end L2

namespace Att
open PySem PySem.W PySem.Calls PyProof.Rows

section
variable {prog : Program} {w : World} {A : Around} {E : Value → Shared → Prop} {s : Shared} {K : Frag}

end
end Att

namespace L2
open PySem PySem.Spec PyProof.Rows

end L2

namespace L2
open PySem PySem.Spec PyProof.Rows

end L2

namespace L2
open PySem PySem.Spec PyProof.Rows

section
variable {P : Program} {w : World} {K : PySem.W.Frag} {mg : Str → Option Value} {base : Heap}
end
section
variable {X : Cx}
/-- len of a dict -/
theorem call_lenD : CallR X (.builtin "len") (fun xs H Q => ∃ a kvs, xs = [V.ref a] ∧ H a = some (.dK kvs) ∧ Q (.int kvs.length) H) := by
  intro pins s σ H xs us Q I r h
  obtain ⟨a, kvs, rfl, ha, q⟩ := h
  obtain ⟨u, rfl, ru⟩ := vals1 r
  cases ru
  exact d_len I (.inl ha) fun t s' I' => ⟨.int kvs.length, H, I', ⟨t, rfl⟩, q⟩
end

section
variable {κ : Type} [DecidableEq κ]
end
end L2


end
/-! DZ1 -/
section
set_option Elab.async false
set_option linter.all false
set_option maxRecDepth 100000
/-! DL: dicts of the store: {}, d[k], k in d, k not in d, d[k] = v -/
namespace DL
open PySem PySem.Spec PyProof.Rows L2
section
variable {κ : Type} [DecidableEq κ] (f : D → Option κ)
/-- what stands under k -/
noncomputable def valD : List (D × D) → D → Option D
  | [], _ => none
  | p :: r, k => if f p.1 = f k then some p.2 else valD r k
/-- in its place, or at the end -/
noncomputable def hasD (ds : List (D × D)) (k : D) : Bool := ds.any fun p => decide (f p.1 = f k)
noncomputable def putD (ds : List (D × D)) (k v : D) : List (D × D) :=
  if hasD f ds k = true then ds.map (fun p => if f p.1 = f k then (p.1, v) else p) else ds ++ [(k, v)]
noncomputable def dropD (ds : List (D × D)) (k : D) : List (D × D) := ds.filter fun p => decide (f p.1 ≠ f k)
end
/-- both nothing, or one stands for the other -/
noncomputable def RelO' (K : PySem.W.Frag) (O : List Addr) (H : Hp) : Option D → Option V → Prop
  | none, none => True
  | some d, some v => Rep K O H d v
  | _, _ => False
section
variable {κ : Type} [DecidableEq κ] {f : D → Option κ} {K : PySem.W.Frag} {O : List Addr} {H : Hp}
theorem valD_has (k : D) : ∀ ds : List (D × D), hasD f ds k = (valD f ds k).isSome
  | [] => rfl
  | p :: r => by
    unfold hasD
    rw [List.any_cons]
    by_cases e : f p.1 = f k
    · simp [valD, e]
    · rw [decide_eq_false e, Bool.false_or]
      have := valD_has k r
      unfold hasD at this
      rw [this, valD, if_neg e]
theorem kvs_val {k : D} {q : κ} (hk : f k = some q) : ∀ {ds : List (D × D)} {vs : List (κ × V)}, Kvs K f O H ds vs → RelO' K O H (valD f ds k) (valV vs q)
  | [], vs, h => by
    cases (show vs = [] from h)
    exact trivial
  | (a, d) :: ds, vs, h => by
    obtain ⟨qa, v, r, rfl, ha, hr, ht⟩ := (show ∃ q v r, vs = (q, v) :: r ∧ f a = some q ∧ Rep K O H d v ∧ Kvs K f O H ds r from h)
    by_cases e : qa = q
    · have e' : f (a, d).1 = f k := by rw [hk]; show f a = _; rw [ha, e]
      rw [valD, if_pos e', valV_pos (p := (qa, v)) e]
      exact hr
    · have e' : ¬ f (a, d).1 = f k := by
        rw [hk]; show ¬ f a = _; rw [ha]; intro z; exact e (Option.some.inj z)
      rw [valD, if_neg e', valV_neg (p := (qa, v)) e]
      exact kvs_val hk ht
theorem RelO'.isSome {a : Option D} {b : Option V} (h : RelO' K O H a b) : b.isSome = a.isSome := by
  cases a <;> cases b <;> first | rfl | exact h.elim
theorem kvs_len : ∀ {ds : List (D × D)} {vs : List (κ × V)}, Kvs K f O H ds vs → vs.length = ds.length
  | [], vs, h => by
    cases (show vs = [] from h)
    rfl
  | (a, d) :: ds, vs, h => by
    obtain ⟨qa, v, r, rfl, ha, hr, ht⟩ := (show ∃ q v r, vs = (q, v) :: r ∧ f a = some q ∧ Rep K O H d v ∧ Kvs K f O H ds r from h)
    simp [kvs_len ht]
theorem kvs_snoc {k d : D} {q : κ} {v : V} (hk : f k = some q) (hr : Rep K O H d v) : ∀ {ds : List (D × D)} {vs : List (κ × V)}, Kvs K f O H ds vs → Kvs K f O H (ds ++ [(k, d)]) (vs ++ [(q, v)])
  | [], vs, h => by
    cases (show vs = [] from h)
    exact ⟨q, v, [], rfl, hk, hr, rfl⟩
  | (a, d) :: ds, vs, h => by
    obtain ⟨qa, w, r, rfl, ha, hw, ht⟩ := (show ∃ q v r, vs = (q, v) :: r ∧ f a = some q ∧ Rep K O H d v ∧ Kvs K f O H ds r from h)
    exact ⟨qa, w, r ++ [(q, v)], rfl, ha, hw, kvs_snoc hk hr ht⟩
theorem kvs_map {k d : D} {q : κ} {v : V} (hk : f k = some q) (hr : Rep K O H d v) : ∀ {ds : List (D × D)} {vs : List (κ × V)}, Kvs K f O H ds vs →
    Kvs K f O H (ds.map fun p => if f p.1 = f k then (p.1, d) else p) (vs.map fun kv => if kv.1 = q then (kv.1, v) else kv)
  | [], vs, h => by
    cases (show vs = [] from h)
    exact rfl
  | (a, e) :: ds, vs, h => by
    obtain ⟨qa, w, r, rfl, ha, hw, ht⟩ := (show ∃ q v r, vs = (q, v) :: r ∧ f a = some q ∧ Rep K O H e v ∧ Kvs K f O H ds r from h)
    have ih := kvs_map hk hr ht
    rw [List.map_cons, List.map_cons]
    by_cases z : qa = q
    · have z' : f (a, e).1 = f k := by rw [hk]; show f a = _; rw [ha, z]
      rw [if_pos z', if_pos (show (qa, w).1 = q from z)]
      exact ⟨qa, v, _, rfl, ha, hr, ih⟩
    · have z' : ¬ f (a, e).1 = f k := by
        rw [hk]; show ¬ f a = _; rw [ha]; intro y; exact z (Option.some.inj y)
      rw [if_neg z', if_neg (show ¬ (qa, w).1 = q from z)]
      exact ⟨qa, w, _, rfl, ha, hw, ih⟩
theorem kvs_put {k d : D} {q : κ} {v : V} (hk : f k = some q) (hr : Rep K O H d v) {ds : List (D × D)} {vs : List (κ × V)} (h : Kvs K f O H ds vs) : Kvs K f O H (putD f ds k d) (putK vs q v) := by
  unfold putD putK
  rw [valD_has, valV_any, (kvs_val hk h).isSome]
  split
  · exact kvs_map hk hr h
  · exact kvs_snoc hk hr h
theorem kvs_drop {k : D} {q : κ} (hk : f k = some q) : ∀ {ds : List (D × D)} {vs : List (κ × V)}, Kvs K f O H ds vs → Kvs K f O H (dropD f ds k) (dropK vs q)
  | [], vs, h => by
    cases (show vs = [] from h)
    exact rfl
  | (a, e) :: ds, vs, h => by
    obtain ⟨qa, w, r, rfl, ha, hw, ht⟩ := (show ∃ q v r, vs = (q, v) :: r ∧ f a = some q ∧ Rep K O H e v ∧ Kvs K f O H ds r from h)
    have ih := kvs_drop hk ht
    unfold dropD dropK at ih ⊢
    rw [List.filter_cons, List.filter_cons]
    by_cases z : qa = q
    · have z' : f (a, e).1 = f k := by rw [hk]; show f a = _; rw [ha, z]
      rw [if_neg (by simp [z']), if_neg (by simp [z])]
      exact ih
    · have z' : ¬ f (a, e).1 = f k := by
        rw [hk]; show ¬ f a = _; rw [ha]; intro y; exact z (Option.some.inj y)
      rw [if_pos (by simpa using z'), if_pos (by simpa using z)]
      exact ⟨qa, w, _, rfl, ha, hw, ih⟩
end
/-! ### keys -/
theorem key_rep {K : PySem.W.Frag} {O : List Addr} {H : Hp} {d : D} {q : Key} {v : V} (h : keyD d = some q) (r : Rep K O H d v) : v = kV q := by
  cases d with
  | int i =>
    cases (show some (Sum.inl i) = some q from h)
    exact Rep.int_i.mp r
  | str x =>
    cases (show some (Sum.inr x) = some q from h)
    exact Rep.str_i.mp r
  | _ => cases h
theorem keys_rep {K : PySem.W.Frag} {O : List Addr} {H : Hp} : ∀ {ds : List D} {qs : List Key} {vs : List V}, keyDs ds = some qs → Reps K O H ds vs → vs = qs.map kV
  | [], qs, vs, h, r => by
    cases (show some [] = some qs from h)
    exact (by unfold Reps at r; exact r)
  | d :: ds, qs, vs, h, r => by
    unfold keyDs at h
    unfold Reps at r
    obtain ⟨v, w, rfl, hv, hw⟩ := r
    split at h
    · rename_i k ks h1 h2
      cases h
      rw [key_rep h1 hv, keys_rep h2 hw]
      rfl
    · cases h
theorem keyT_rep {K : PySem.W.Frag} {O : List Addr} {H : Hp} {d : D} {q : List Key} {v : V} (h : keyT d = some q) (r : Rep K O H d v) : ∃ b, v = .ref b ∧ H b = some (.tup (q.map kV)) := by
  cases d with
  | tup ds =>
    rw [Rep.tup_i] at r
    obtain ⟨a, vs, rfl, e, rs⟩ := r
    have h' : keyDs ds = some q := h
    rw [keys_rep h' rs] at e
    exact ⟨a, rfl, e⟩
  | _ => cases h
/-! ### looking up -/
noncomputable def dAt (st : Sto) (d k : D) : Option (Option D) := match d with
  | .res i => match st[i]? with
    | some (.dct ds) => if (keyD k).isSome = true then some (valD keyD ds k) else none
    | some (.dtt ds) => if (keyT k).isSome = true then some (valD keyT ds k) else none
    | _ => none
  | _ => none
theorem dAt_ok {K : PySem.W.Frag} {O : List Addr} {H : Hp} {st : Sto} {d k : D} {o : Option D} {x y : V} (W : WR K O H st) (h : dAt st d k = some o) (rx : Rep K O H d x) (ry : Rep K O H k y) :
    ∃ a ov, x = .ref a ∧ DGet H a y ov ∧ RelO' K O H o ov := by
  cases d with
  | res i =>
    rw [Rep.res_i] at rx
    obtain ⟨a, rfl, q⟩ := rx
    unfold dAt at h
    dsimp only at h
    cases e : st[i]? with
    | none => rw [e] at h; cases h
    | some s =>
      rw [e] at h
      cases s with
      | lst xs => cases h
      | ins C fs => cases h
      | dct ds =>
        obtain ⟨vs, e2, kv⟩ := W.at_ _ _ _ q e
        dsimp only at h
        cases hk : keyD k with
        | none => rw [hk] at h; cases h
        | some c =>
          rw [hk] at h
          cases h
          cases key_rep hk ry
          exact ⟨a, _, rfl, DGet.k e2, kvs_val hk kv⟩
      | dtt ds =>
        obtain ⟨vs, e2, kv⟩ := W.at_ _ _ _ q e
        dsimp only at h
        cases hk : keyT k with
        | none => rw [hk] at h; cases h
        | some c =>
          rw [hk] at h
          cases h
          obtain ⟨b, rfl, hb⟩ := keyT_rep hk ry
          exact ⟨a, _, rfl, DGet.t e2 hb, kvs_val hk kv⟩
  | _ => cases h
noncomputable def dPutAt (st : Sto) (d k v : D) : Option Sto := match d with
  | .res i => match st[i]? with
    | some (.dct ds) => if (keyD k).isSome = true ∧ ds.length < small then some (st.set i (.dct (putD keyD ds k v))) else none
    | some (.dtt ds) => if (keyT k).isSome = true ∧ ds.length < small then some (st.set i (.dtt (putD keyT ds k v))) else none
    | _ => none
  | _ => none
theorem dPut_ok {K : PySem.W.Frag} {O : List Addr} {H : Hp} {st st' : Sto} {d k z : D} {x y w : V} (W : WR K O H st) (h : dPutAt st d k z = some st') (rx : Rep K O H d x) (ry : Rep K O H k y) (rw' : Rep K O H z w) :
    ∃ a H', x = .ref a ∧ DPut H a y w H' ∧ Keep K O H O H' ∧ WR K O H' st' := by
  cases d with
  | res i =>
    rw [Rep.res_i] at rx
    obtain ⟨a, rfl, q⟩ := rx
    unfold dPutAt at h
    dsimp only at h
    cases e : st[i]? with
    | none => rw [e] at h; cases h
    | some s =>
      rw [e] at h
      cases s with
      | lst xs => cases h
      | ins C fs => cases h
      | dct ds =>
        obtain ⟨vs, e2, kv⟩ := W.at_ _ _ _ q e
        dsimp only at h
        split at h
        · rename_i hc
          cases hk : keyD k with
          | none => rw [hk] at hc; cases hc.1
          | some c =>
            cases h
            cases key_rep hk ry
            refine ⟨a, _, rfl, DPut.k e2 (by rw [kvs_len kv]; exact Nat.lt_of_lt_of_le hc.2 small_le), Keep.write W q, W.write q ?_⟩
            exact ⟨_, upd_same, Kvs.mono (Keep.write W q) _ _ (kvs_put hk rw' kv)⟩
        · cases h
      | dtt ds =>
        obtain ⟨vs, e2, kv⟩ := W.at_ _ _ _ q e
        dsimp only at h
        split at h
        · rename_i hc
          cases hk : keyT k with
          | none => rw [hk] at hc; cases hc.1
          | some c =>
            cases h
            obtain ⟨b, rfl, hb⟩ := keyT_rep hk ry
            refine ⟨a, _, rfl, DPut.t e2 hb (by rw [kvs_len kv]; exact Nat.lt_of_lt_of_le hc.2 small_le), Keep.write W q, W.write q ?_⟩
            exact ⟨_, upd_same, Kvs.mono (Keep.write W q) _ _ (kvs_put hk rw' kv)⟩
        · cases h
  | _ => cases h
/-! ### what they mean -/
noncomputable def getDd (fo fi : DE) : DE := fun ρ st => (fo ρ st).bind fun d st1 => (fi ρ st1).bind fun k st2 => match dAt st2 d k with
  | some (some v) => .ok v st2
  | _ => .bad
noncomputable def inDd : D → D → Sto → Out D := fun k d st => match dAt st d k with
  | some o => .ok (.bl o.isSome) st
  | _ => .bad
noncomputable def notInDd : D → D → Sto → Out D := fun k d st => match dAt st d k with
  | some o => .ok (.bl (!o.isSome)) st
  | _ => .bad
noncomputable def dNewK : DE := fun _ st => .ok (.res st.length) (st ++ [.dct []])
noncomputable def dNewT : DE := fun _ st => .ok (.res st.length) (st ++ [.dtt []])
noncomputable def sPutD (fo fi fv : DE) : DS := fun ρ st => (fv ρ st).to fun v st1 => (fo ρ st1).to fun d st2 => (fi ρ st2).to fun k st3 => match dPutAt st3 d k v with
  | some st4 => .nx ρ st4
  | _ => .bad
section
variable {X : Cx} {EX : EXT} {a b c e o i : Expr} {fa fb fc fo fi fv : DE} {pos p p2 apos cpos : Pos}
theorem pd_dget (hu : X.A.units + 64 < cLine) (ho : PD X EX o fo) (hi : PD X EX i fi) (hs : NoSl i := by intro _ _; rfl) : PD X EX (.Subscript o i pos) (getDd fo fi) := by
  refine PE.mono (pe_dget (by omega) ho hi hs) ?_
  rintro σ H Q ⟨O, ρ, st, W, E, R⟩
  refine ⟨O, ρ, st, W, E, R.bind.mono fun d st1 O1 H1 k1 W1 R1 x rx => ?_⟩
  refine ⟨O1, ρ, st1, W1, E.mono k1, R1.bind.mono fun k st2 O2 H2 k2 W2 R2 y ry => ?_⟩
  split at R2
  · rename_i v hv
    obtain ⟨a, ov, rfl, g, rel⟩ := dAt_ok W2 hv (Rep.mono k2 _ _ rx) ry
    cases ov with
    | none => exact rel.elim
    | some w => exact ⟨a, w, rfl, g, Run.now (k := Val X.K Q) R2 W2 _ rel⟩
  · exact R2.elim
theorem op_inDd (hu : X.A.units + 64 < cLine) : OpD X EX (compareOp .In) inDd := by
  intro pins s σ H x y v u Q I rx ry h
  obtain ⟨O, k, d, st, W, rk, rd, R⟩ := h
  unfold inDd at R
  split at R
  · rename_i o ho
    obtain ⟨a, ov, rfl, g, rel⟩ := dAt_ok W ho rd rk
    cases (show u = Value.ref a from ry)
    refine d_in (by omega) I g rx fun s' I' => ⟨.bl ov.isSome, H, I', rfl, ?_⟩
    rw [rel.isSome]
    exact Run.now (k := Val X.K Q) R W _ (Rep.bl_i.mpr rfl)
  · exact R.elim
theorem op_notInDd (hu : X.A.units + 64 < cLine) : OpD X EX (compareOp .NotIn) notInDd := by
  intro pins s σ H x y v u Q I rx ry h
  obtain ⟨O, k, d, st, W, rk, rd, R⟩ := h
  unfold notInDd at R
  split at R
  · rename_i o ho
    obtain ⟨a, ov, rfl, g, rel⟩ := dAt_ok W ho rd rk
    cases (show u = Value.ref a from ry)
    refine d_notIn (by omega) I g rx fun s' I' => ⟨.bl (!ov.isSome), H, I', rfl, ?_⟩
    rw [rel.isSome]
    exact Run.now (k := Val X.K Q) R W _ (Rep.bl_i.mpr rfl)
  · exact R.elim
theorem pd_dnewK : PD X EX (.Dict [] [] pos) dNewK := by
  refine PE.mono pe_dnewK ?_
  rintro σ H Q ⟨O, ρ, st, W, E, R⟩ p hp
  exact R (O ++ [p]) _ (Keep.push hp) (W.push' hp ⟨[], upd_same, rfl⟩) _ (Rep.res_i.mpr ⟨p, rfl, by rw [← W.len]; simp⟩)
theorem pd_dput (hu : X.A.units + 64 < cLine) (ho : PD X EX o fo) (hi : PD X EX i fi) (hv : PD X EX e fv) (hs : swapsWith e (some (.Subscript o i p)) pos.line X.env = pure false := by rfl) :
    PDs X EX (.Assign [.Subscript o i p] e pos) (sPutD fo fi fv) := by
  refine PS.mono (ps_dput (by omega) ho hi hv hs) ?_
  rintro Dn σ H ⟨O, ρ, st, W, E, R⟩
  refine ⟨O, ρ, st, W, E, R.to.mono fun w st1 O1 H1 k1 W1 R1 v r => ?_⟩
  refine ⟨O1, ρ, st1, W1, E.mono k1, R1.to.mono fun d st2 O2 H2 k2 W2 R2 u r2 => ?_⟩
  refine ⟨O2, ρ, st2, W2, E.mono (k1.trans k2), R2.to.mono fun j st3 O3 H3 k3 W3 R3 z r3 => ?_⟩
  split at R3
  · rename_i st4 h4
    obtain ⟨a, H4, rfl, g, kp, W4⟩ := dPut_ok W3 h4 (Rep.mono k3 _ _ r2) r3 (Rep.mono (k2.trans k3) _ _ r)
    exact ⟨a, H4, rfl, g, R3 O3 H4 σ kp W4 (E.mono (k1.trans (k2.trans (k3.trans kp))))⟩
  · exact R3.elim
/-! d.pop(k), k there -/
noncomputable def dPopD (fo fi : DE) : DE := fun ρ st => (fo ρ st).bind fun d st1 => match d with
  | .res r => match st1[r]? with
    | some (.dct _) => (fi ρ st1).bind fun k st2 => match st2[r]? with
      | some (.dct ds) => match keyD k, valD keyD ds k with
        | some _, some v => .ok v (st2.set r (.dct (dropD keyD ds k)))
        | _, _ => .bad
      | _ => .bad
    | _ => .bad
  | _ => .bad
theorem pd_dpop (ho : PD X EX o fo) (hi : PD X EX i fi) (m : M1 X o "pop" apos i cpos := by exact ⟨rfl, rfl, rfl, rfl⟩) : PD X EX (.Call (.Attribute o "pop" apos) [i] [] cpos) (dPopD fo fi) := by
  refine PE.mono (pe_dpop1 ho hi m) ?_
  rintro σ H Q ⟨O, ρ, st, W, E, R⟩
  refine ⟨O, ρ, st, W, E, R.bind.mono fun d st1 O1 H1 k1 W1 R1 x rx => ?_⟩
  split at R1
  · rename_i r
    split at R1
    · rename_i ds0 hd0
      rw [Rep.res_i] at rx
      obtain ⟨a, rfl, q⟩ := rx
      obtain ⟨vs0, e0, kv0⟩ := W1.at_ _ _ _ q hd0
      refine ⟨a, rfl, .inl ⟨vs0, .inl e0⟩, ?_⟩
      refine ⟨O1, ρ, st1, W1, E.mono k1, R1.bind.mono fun k st2 O2 H2 k2 W2 R2 y ry => ?_⟩
      split at R2
      · rename_i ds hd
        have q2 := k2.pre _ _ q
        obtain ⟨vs, e2, kv⟩ := W2.at_ _ _ _ q2 hd
        split at R2
        · rename_i c v hk hv
          have hk' := key_rep hk ry
          have rel := kvs_val hk kv
          rw [hv] at rel
          cases hw : valV vs c with
          | none => rw [hw] at rel; exact rel.elim
          | some w =>
            rw [hw] at rel
            refine ⟨vs, c, w, e2, hk', hw, ?_⟩
            have kw : Keep X.K O2 H2 O2 (upd H2 a (.dK (dropK vs c))) := Keep.write W2 q2
            exact R2 O2 _ kw (W2.write q2 ⟨_, upd_same, Kvs.mono kw _ _ (kvs_drop hk kv)⟩) _ (Rep.mono kw _ _ rel)
        · exact R2.elim
      · exact R2.elim
    · exact R1.elim
  · exact R1.elim
/-! o.x -= e -/
end
section
variable {X : Cx} {EX : EXT} {e o : Expr} {fa fo : DE} {pos : Pos} {C : Addr} {x : Str}
noncomputable def sFldSub (C : Addr) (x : Str) (fo fv : DE) : DS := fun ρ st => (fo ρ st).to fun d st1 => match insAt C st1 d with
  | some (i, fs) => match fs.lookup x with
    | some (.int z) => (fv ρ st1).to fun v st2 => match v with
      | .int y => match insAt C st2 d with
        | some (j, fs') => if fs'.length < 900 then .nx ρ (st2.set j (.ins C (putFD x (.int (z - y)) fs'))) else .bad
        | none => .bad
      | _ => .bad
    | _ => .bad
  | none => .bad
theorem pd_fldSub {tpos : Pos} (ha : PD X EX o fo) (hv : PD X EX e fa) (c : Cls X.K C) (na : NoAttr X.K C x) : PDs X EX (.AugAssign (.Attribute o x tpos) .Sub e pos) (sFldSub C x fo fa) := by
  refine PS.mono (ps_fldaug ha hv in_sub) ?_
  rintro Dn σ H ⟨O, ρ, st, W, E, R⟩
  refine ⟨O, ρ, st, W, E, R.to.mono fun d st1 O1 H1 k1 W1 R1 u r => ?_⟩
  cases e : insAt C st1 d with
  | none => rw [e] at R1; exact R1.elim
  | some q =>
    obtain ⟨i, fs⟩ := q
    rw [e] at R1
    dsimp only at R1
    obtain ⟨rfl, a, dx, vfs, rfl, ho, hH, hf⟩ := insAt_rd W1 r e
    cases hl : fs.lookup x with
    | none => rw [hl] at R1; exact R1.elim
    | some w =>
      rw [hl] at R1
      cases w with
      | int z =>
        dsimp only at R1
        obtain ⟨v, h1, h2⟩ := hf.look.2 _ hl
        rw [Rep.int_i] at h2
        subst h2
        refine ⟨a, C, dx, vfs, _, rfl, hH, c, na, h1, O1, ρ, st1, W1, E.mono k1, R1.to.mono fun y st2 O2 H2 k2 W2 R2 vy ry => ?_⟩
        cases y with
        | int y =>
          rw [Rep.int_i] at ry
          subst ry
          refine ⟨z, y, rfl, rfl, ?_⟩
          dsimp only at R2
          cases e2 : insAt C st2 (.res i) with
          | none => rw [e2] at R2; exact R2.elim
          | some q =>
            obtain ⟨j, fs'⟩ := q
            rw [e2] at R2
            dsimp only at R2
            obtain ⟨ej, a', dx', vfs', ea, ho', hH', hf'⟩ := insAt_rd W2 (Rep.mono k2 _ _ r) e2
            cases ej
            cases ea
            by_cases hl2 : fs'.length < 900
            · rw [if_pos hl2] at R2
              refine ⟨dx', vfs', hH', by rw [← hf'.length]; omega, ?_⟩
              have kw : Keep X.K O2 H2 O2 (upd H2 a (.ins C dx' (putF x (.int (z - y)) vfs'))) := Keep.write W2 ho'
              exact R2 O2 _ σ kw (W2.write ho' ⟨dx', _, upd_same, Flds.mono kw _ _ (hf'.put (Rep.int_i.mpr rfl))⟩) (E.mono (k1.trans (k2.trans kw)))
            · rw [if_neg hl2] at R2; exact R2.elim
        | _ => exact R2.elim
      | _ => exact R1.elim
end
/-! ### by equations -/
section
variable {fo fi fv : DE} {ρ : Ev} {st : Sto} {C : Addr} {x : Str}
theorem z_getDd : getDd fo fi ρ st = (fo ρ st).bind fun d st1 => (fi ρ st1).bind fun k st2 => match dAt st2 d k with
  | some (some v) => .ok v st2
  | _ => .bad := rfl
theorem z_sPutD : sPutD fo fi fv ρ st = (fv ρ st).to fun v st1 => (fo ρ st1).to fun d st2 => (fi ρ st2).to fun k st3 => match dPutAt st3 d k v with
  | some st4 => .nx ρ st4
  | _ => .bad := rfl
theorem z_sFldSub : sFldSub C x fo fv ρ st = (fo ρ st).to fun d st1 => match insAt C st1 d with
  | some (i, fs) => match fs.lookup x with
    | some (.int z) => (fv ρ st1).to fun v st2 => match v with
      | .int y => match insAt C st2 d with
        | some (j, fs') => if fs'.length < 900 then .nx ρ (st2.set j (.ins C (putFD x (.int (z - y)) fs'))) else .bad
        | none => .bad
      | _ => .bad
    | _ => .bad
  | none => .bad := rfl
theorem z_dPopD : dPopD fo fi ρ st = (fo ρ st).bind fun d st1 => match d with
  | .res r => match st1[r]? with
    | some (.dct _) => (fi ρ st1).bind fun k st2 => match st2[r]? with
      | some (.dct ds) => match keyD k, valD keyD ds k with
        | some _, some v => .ok v (st2.set r (.dct (dropD keyD ds k)))
        | _, _ => .bad
      | _ => .bad
    | _ => .bad
  | _ => .bad := rfl
@[simp] theorem z_dNewK : dNewK ρ st = .ok (.res st.length) (st ++ [.dct []]) := rfl
@[simp] theorem z_dNewT : dNewT ρ st = .ok (.res st.length) (st ++ [.dtt []]) := rfl
end
end DL

end
/-! DZ2 -/
section
set_option Elab.async false
set_option linter.all false
set_option maxRecDepth 100000
set_option maxHeartbeats 2000000
/-! DL: sorted of texts: of a dict's keys, of a list -/
namespace SO
open PySem PySem.W PyProof.Rows
section
variable {prog : Program} {w : World} {A : Around} {E : Value → Shared → Prop} {s : Shared}
/-- a source sorted: what stood stays (h1), and the new list -/
theorem sorted_src {T : String} {r d : Addr} {n : Nat} {P : Nat → Value → Prop} {OK : Heap → Prop} {κ : SortKind} {lt : Nat → Nat → Bool} {Q : Value → Shared → Prop} (src : KdlSrc prog w T r d n P OK) (hh : A.handled = none) (ok : OK s.heap) (h64 : n < 64)
    (C : ∀ vs a h' tk, ItemsOf P vs n → Cmp prog w { s with heap := h', toks := tk } a vs.toList κ lt) (O : Ord n lt)
    (k : ∀ vs, ItemsOf P vs n → ∀ p : List Nat, p.Perm (List.range n) → p.Pairwise (fun i j => lt i j = true) → ∀ (h1 : Heap) a (h' : Heap) tk c, (∀ b o, s.heap.get? b = some o → h1.get? b = some o) → h1.objs.size ≤ a → (∀ b o, h1.get? b = some o → h'.get? b = some o) →
      h'.get? a = some (seqObj "list" (p.map fun i => vs.toList.getD i .none).toArray c) → Q (.ref a) { s with heap := h', toks := tk }) :
    wpAny (model prog w) A (call (.builtin "sorted") [.ref r]) Q E s := by
  refine Calls.call_function_entry kind_sorted plain_sorted entry_sorted (args_sorted1 _) ?_
  unfold Builtin.«sorted»
  refine wpAny_bind (m := checkCount "sorted" 1 1 _) (wpAny_pure ?_)
  refine wpAny_bind (kdu_collect src hh ok (by rw [sizeLine_eq]; omega) fun h1 tk acc k1 hI => ?_)
  have hlen : acc.toList.length = n := by rw [Array.length_toList]; exact hI.1
  refine wpAny_bind (wpAny_newList ?_ (by rw [sizeLine_eq, hlen]; omega))
  have hoL : (h1.push (seqObj "list" acc.toList.toArray 0)).get? h1.objs.size = some (seqObj "list" acc.toList.toArray 0) := Heap.get?_push_size _ rfl
  have keep : ∀ b o, h1.get? b = some o → (h1.push (seqObj "list" acc.toList.toArray 0)).get? b = some o := fun b o q => Heap.get?_push_of_some _ q
  show wpAny _ _ _ _ _ { s with heap := h1.push (seqObj "list" acc.toList.toArray 0), toks := tk }
  generalize h1.push (seqObj "list" acc.toList.toArray 0) = g at hoL keep
  refine wpAny_bind (wpAny_holding (wpAny_call_entry slot_list_sort ⟨_, hoL, rfl⟩ entry_list_sort ?body (args_list_sort _)))
  case body =>
    refine list_sort_keep (s := { s with heap := g, toks := tk }) hoL (by omega) (C acc _ g tk hI) (by rw [hlen]; exact O) fun p hp hpw h' c hb hc => ?_
    refine ⟨_, rfl, wpAny_pure ⟨_, rfl, ?_⟩⟩
    rw [hlen] at hp
    exact k acc hI p hp hpw h1 _ h' tk c k1 (Nat.le_refl _) (fun b o e => hb b o (Nat.ne_of_lt (Heap.lt_size e)) (keep b o e)) hc
/-- texts -/
noncomputable def tltB (a b : Str) : Bool := decide (a.cps.toList < b.cps.toList)
noncomputable def tleB (a b : Str) : Bool := decide (a.cps.toList ≤ b.cps.toList)
theorem str_cps {a b : Str} (h : a.cps.toList = b.cps.toList) : a = b := by
  cases a; cases b
  simp only at h
  congr 1
  exact Array.toList_inj.mp h
theorem str_cmp {a : Addr} {vs : List Value} {ss : List Str} (h : StrsAre vs ss) : Cmp prog w s a vs oneType' (fun i j => tltB (ss.getD i default) (ss.getD j default)) := by
  refine ⟨fun h2 g A E Q hg hQ => ?_, fun h2 g A E Q i j hg hi hj hQ => ?_⟩
  · match vs, h, h2 with
    | [], _, h2 => simp at h2
    | [_], _, h2 => simp at h2
    | v1 :: v2 :: vs, h, _ =>
      rw [keyKind_strs h]
      exact wpAny_pure hQ
  · have hl := h.length
    obtain ⟨t, h1⟩ := h.at (j := i) (y := ss.getD i default) (by rw [List.getD_eq_getElem?_getD, List.getElem?_eq_getElem (by omega)]; rfl)
    obtain ⟨u, h3⟩ := h.at (j := j) (y := ss.getD j default) (by rw [List.getD_eq_getElem?_getD, List.getElem?_eq_getElem (by omega)]; rfl)
    rw [List.getD_eq_getElem?_getD (l := vs), List.getD_eq_getElem?_getD (l := vs), h1, h3, keyLt'_oneType]
    exact oneLt_str hQ
theorem str_ord {ss : List Str} (hn : ss.Nodup) : Ord ss.length (fun i j => tltB (ss.getD i default) (ss.getD j default)) := by
  have apart : ∀ i j, i < ss.length → j < ss.length → i ≠ j → (ss.getD i default).cps.toList ≠ (ss.getD j default).cps.toList := fun i j hi hj ne e => by
    have e' := str_cps e
    rw [List.getD_eq_getElem?_getD, List.getD_eq_getElem?_getD, List.getElem?_eq_getElem hi, List.getElem?_eq_getElem hj] at e'
    exact ne ((List.getElem_inj hn).mp e')
  refine ⟨fun i j hi hj ne h => ?_, fun i j hi hj h => ?_, fun i j k hi hj hk h1 h2 => ?_⟩
  · have ha := apart i j hi hj ne
    simp only [tltB, decide_eq_true_eq, decide_eq_false_iff_not] at *
    have h1 := List.not_lt.mp h
    by_cases h2 : (ss.getD j default).cps.toList < (ss.getD i default).cps.toList
    · exact h2
    · exact absurd (List.le_antisymm (List.not_lt.mp h2) h1) ha
  · simp only [tltB, decide_eq_true_eq, decide_eq_false_iff_not] at *
    exact fun h2 => List.lt_irrefl _ (List.lt_trans h h2)
  · simp only [tltB, decide_eq_true_eq] at *
    exact List.lt_trans h1 h2
noncomputable def srtS (ss : List Str) : List Str := ss.mergeSort tleB
theorem srtS_perm (ss : List Str) : (srtS ss).Perm ss := List.mergeSort_perm _ _
theorem srtS_pw (ss : List Str) : (srtS ss).Pairwise (fun a b => tleB a b = true) := by
  refine List.pairwise_mergeSort (fun a b c h1 h2 => ?_) (fun a b => ?_) ss
  · simp only [tleB, decide_eq_true_eq] at *
    exact List.le_trans h1 h2
  · simp only [tleB, Bool.or_eq_true, decide_eq_true_eq]
    exact List.le_total _ _
theorem srtS_uniq {ss qs : List Str} (hp : qs.Perm ss) (hw : qs.Pairwise (fun a b => tltB a b = true)) : qs = srtS ss := by
  refine List.Perm.eq_of_pairwise (le := fun a b => tleB a b = true) (fun a b _ _ h1 h2 => ?_) (hw.imp fun {a b} h => ?_) (srtS_pw ss) (hp.trans (srtS_perm ss).symm)
  · simp only [tleB, decide_eq_true_eq] at h1 h2
    exact str_cps (List.le_antisymm h1 h2)
  · simp only [tleB, tltB, decide_eq_true_eq] at *
    exact List.not_lt.mp fun h2 => List.lt_irrefl _ (List.lt_trans h h2)
end
end SO
namespace DL
open PySem PySem.Spec PyProof.Rows L2 PySem.W SO
noncomputable def strsD : List D → Option (List Str)
  | [] => some []
  | .str x :: ds => (strsD ds).map (x :: ·)
  | _ :: _ => none
theorem strsD_eq : ∀ {ds : List D} {ss : List Str}, strsD ds = some ss → ds = ss.map D.str
  | [], ss, e => by cases e; rfl
  | d :: ds, ss, e => by
    unfold strsD at e
    split at e
    · rename_i h; cases h
    · rename_i x r h
      cases h
      obtain ⟨qs, h1, rfl⟩ := Option.map_eq_some_iff.mp e
      rw [strsD_eq h1]; rfl
    · cases e
theorem strsD_map : ∀ (ss : List Str), strsD (ss.map D.str) = some ss
  | [] => rfl
  | x :: ss => by
    show (strsD (ss.map D.str)).map (x :: ·) = _
    rw [strsD_map ss]; rfl
/-- sorted(d): the keys of a dict of the store, all texts -/
noncomputable def sortDF : List D → Sto → Out (List D)
  | [.res i], st => match st[i]? with
    | some (.dct ds) => match strsD (ds.map (·.1)) with
      | some ss => if ss.length < 64 then .ok ((srtS ss).map D.str) st else .bad
      | none => .bad
    | _ => .bad
  | _, _ => .bad
/-- sorted of a list of texts that are all apart -/
noncomputable def sortSF : List D → Sto → Out (List D)
  | [d], st => match seqL st d with
    | some xs => match strsD xs with
      | some ss => if ss.Nodup ∧ ss.length < 64 then .ok ((srtS ss).map D.str) st else .bad
      | none => .bad
    | none => .bad
  | _, _ => .bad
theorem isStr_inv {x : Str} {v : Value} (h : Value.isStrOf x v = true) : ∃ t, v = .str x t := by
  unfold Value.isStrOf at h
  split at h
  · rename_i y t
    exact ⟨t, by rw [eq_of_beq h]⟩
  · cases h
theorem kvs_keys {K : PySem.W.Frag} {O : List Addr} {H : Hp} : ∀ {ds : List (D × D)} {vs : List (Key × V)} {ss : List Str}, Kvs K keyD O H ds vs → ds.map (·.1) = ss.map D.str → vs.map (·.1) = ss.map Sum.inr
  | [], vs, ss, h, e => by
    cases (show vs = [] from h)
    cases ss with
    | nil => rfl
    | cons a b => cases e
  | (k, d) :: ds, vs, ss, h, e => by
    obtain ⟨q, v, r, rfl, hk, hr, ht⟩ := (show ∃ q v r, vs = (q, v) :: r ∧ keyD k = some q ∧ Rep K O H d v ∧ Kvs K keyD O H ds r from h)
    cases ss with
    | nil => cases e
    | cons a b =>
      rw [List.map_cons, List.map_cons] at e
      obtain ⟨e1, e2⟩ := List.cons.inj e
      have e1' : k = D.str a := e1
      subst e1'
      cases (show some (Sum.inr a) = some q from hk)
      rw [List.map_cons, List.map_cons, kvs_keys ht e2]
theorem strsAre_of : ∀ {vs : List Value} {ss : List Str}, vs.length = ss.length → (∀ (i : Nat) (v : Value) (x : Str), vs[i]? = some v → ss[i]? = some x → ∃ t, v = .str x t) → StrsAre vs ss
  | [], [], _, _ => .nil
  | [], _ :: _, h, _ => by cases h
  | _ :: _, [], h, _ => by cases h
  | v :: vs, x :: ss, h, k => by
    obtain ⟨t, rfl⟩ := k 0 v x rfl rfl
    exact .cons x t (strsAre_of (by simpa using h) fun i v' x' h1 h2 => k (i + 1) v' x' (by simpa using h1) (by simpa using h2))
section
variable {X : Cx} {EX : EXT}
/-- the sorted list, made -/
theorem str_new {pins : List (Addr × Obj)} {s : Shared} {σ : L2.St} {H : Hp} {O : List Addr} {st : Sto} {Q : VK} {its : List Value} {ss : List Str} {ix : List Nat} {a : Addr} {h1 h' : Heap} {tk c : Nat} (I : Inv X pins σ H s) (W : WR X.K O H st) (hs : StrsAre its ss)
    (R : Run X.K EX O H (.ok ((srtS ss).map D.str) st) (New X.K Q)) (hp : ix.Perm (List.range ss.length)) (hw : ix.Pairwise (fun i j => tltB (ss.getD i default) (ss.getD j default) = true)) (h64 : ss.length < 64)
    (k1 : ∀ b o, s.heap.get? b = some o → h1.get? b = some o) (ha : h1.objs.size ≤ a) (hk : ∀ b o, h1.get? b = some o → h'.get? b = some o) (hg : h'.get? a = some (seqObj "list" (ix.map fun i => its.getD i .none).toArray c)) :
    ∃ v H', Inv X pins σ H' { s with heap := h', toks := tk } ∧ RelV v (.ref a) ∧ Q v H' := by
  have hl := hs.length
  have hix : ix.map (fun i => ss.getD i default) = srtS ss := by
    refine srtS_uniq ?_ (List.pairwise_map.mpr hw)
    refine (hp.map (fun i => ss.getD i default)).trans (List.Perm.of_eq ?_)
    refine List.ext_getElem (by simp) fun i h1 h2 => ?_
    simp [List.getD_eq_getElem?_getD, List.getElem?_eq_getElem h2]
  have hb : ∀ i ∈ ix, i < ss.length := fun i hi => by
    have := hp.mem_iff.mp hi
    simpa using this
  have I1 : Inv X pins σ H { s with heap := h1, toks := tk } := I.kept k1
  refine ⟨.ref a, upd H a (.lst (ix.map fun i => V.str (ss.getD i default))), I1.laid hk ha ⟨?_, ix.map (fun i => its.getD i .none), c, ?_, hg⟩, rfl, ?_⟩
  · have h0 := hp.length_eq
    simp only [List.length_map, List.length_range] at h0 ⊢
    rw [sizeLine_eq]
    omega
  · refine vals_map ix fun i hi => ?_
    have := hb i hi
    obtain ⟨t, h3⟩ := hs.at (j := i) (y := ss.getD i default) (by rw [List.getD_eq_getElem?_getD, List.getElem?_eq_getElem this]; rfl)
    rw [List.getD_eq_getElem?_getD (l := its), h3]
    exact ⟨t, rfl⟩
  · refine Run.now (k := New X.K Q) R W a _ ?_ (I1.hok.fresh ha)
    rw [← hix, List.map_map]
    exact reps_map ix fun i hi => Rep.str_i.mpr rfl
theorem call_sortDF (hc : X.calm = true) : CallF X EX (.builtin "sorted") sortDF := by
  intro pins s σ H xs us Q I rx h
  obtain ⟨O, ds, st, W, r, R⟩ := h
  unfold sortDF at R
  split at R
  · rename_i i
    obtain ⟨v, rfl, rv⟩ := r.one_of
    rw [Rep.res_i] at rv
    obtain ⟨a, rfl, q⟩ := rv
    split at R
    · rename_i kvs hk
      obtain ⟨vs, e2, kv⟩ := W.at_ _ _ _ q hk
      split at R
      · rename_i ss hss
        have hkeys := kvs_keys kv (strsD_eq hss)
        by_cases h64 : ss.length < 64
        · rw [if_pos h64] at R
          cases rx with
          | cons r0 rt =>
            cases rt
            cases r0
            obtain ⟨z, hd, ws, rel, o, es, ep, g1, g2, g3, g4, g5, g6⟩ := dk_rd I.hok (.inl e2)
            have hwk : ws.map (·.1) = ss.map Sum.inr := by rw [← rel.keys]; exact hkeys
            have hlen : ws.length = ss.length := by
              have := congrArg List.length hwk
              simpa using this
            have hnd : ss.Nodup := by
              rw [hwk] at g6
              exact (List.pairwise_map.mp g6).imp fun h e => h (by rw [e])
            have src := kdl_dict (knd := mixKind X.prog X.w) (d := a) (kvs := ws) (ep := ep) hd
            have sAll : ∀ acc : Array Value, ItemsOf (fun i v => ∃ k x, ws[i]? = some (k, x) ∧ (mixKind X.prog X.w).is k v = true) acc ws.length → StrsAre acc.toList ss := by
              intro acc hI
              refine strsAre_of (by rw [Array.length_toList, hI.1, hlen]) fun i v x h1 h2 => ?_
              obtain ⟨k, y, h3, h4⟩ := hI.2 i v (by simpa using h1)
              have h5 : (ws.map (·.1))[i]? = some k := by rw [List.getElem?_map, h3]; rfl
              rw [hwk, List.getElem?_map, h2] at h5
              cases h5
              exact isStr_inv h4
            refine sorted_src (κ := oneType') (lt := fun i j => tltB (ss.getD i default) (ss.getD j default)) src (I.ok.hd hc) ⟨o, es, g1, g2, g3, g4, g5, g6⟩ (by omega) (fun vs a h' tk hI => str_cmp (sAll vs hI)) (by rw [hlen]; exact str_ord hnd) fun acc hI ix hp hw h1 b h' tk c k1 hb hk hg => ?_
            rw [hlen] at hp
            exact str_new I W (sAll acc hI) R hp hw h64 k1 hb hk hg
        · rw [if_neg h64] at R; exact R.elim
      · exact R.elim
    · exact R.elim
  · exact R.elim
end
end DL

end
/-! DM -/
section
set_option Elab.async false
set_option linter.all false
set_option maxRecDepth 100000
/-! DM: how meanings are reckoned -/
namespace DL
open PySem PySem.Spec PyProof.Rows L2
/-! ### data that are equal where the parts are -/
mutual
noncomputable def nice : Nat → D → Bool
  | 0, _ => false
  | _ + 1, .non => true
  | _ + 1, .int _ => true
  | _ + 1, .str _ => true
  | n + 1, .tup xs => niceL n xs
  | n + 1, .lst xs => niceL n xs
  | _ + 1, _ => false
noncomputable def niceL : Nat → List D → Bool
  | _, [] => true
  | n, x :: xs => nice n x && niceL n xs
end
theorem niceL_all (n : Nat) : ∀ xs : List D, niceL n xs = true ↔ ∀ x ∈ xs, nice n x = true
  | [] => by simp [niceL]
  | x :: xs => by simp [niceL, niceL_all n xs]
open Classical in
theorem eqItems_nice {f : D → D → Option Bool} : ∀ (xs ys : List D), (∀ x ∈ xs, ∀ y ∈ ys, f x y = some (decide (x = y))) → eqItems f xs ys = some (decide (xs = ys))
  | [], [], _ => by simp [eqItems]
  | [], y :: ys, _ => by simp [eqItems]
  | x :: xs, [], _ => by simp [eqItems]
  | x :: xs, y :: ys, h => by
    unfold eqItems
    rw [h x List.mem_cons_self y List.mem_cons_self, eqItems_nice xs ys fun a ha b hb => h a (List.mem_cons_of_mem _ ha) b (List.mem_cons_of_mem _ hb)]
    by_cases h1 : x = y <;> by_cases h2 : xs = ys <;> simp [h1, h2]
open Classical in
theorem eqN_nice (st : Sto) : ∀ (n : Nat) (a b : D), nice n a = true → nice n b = true → eqN st n a b = some (decide (a = b))
  | 0, a, b, h, _ => by cases a <;> simp [nice] at h
  | n + 1, a, b, ha, hb => by
    unfold eqN
    cases a <;> cases b <;> simp only [nice, Bool.false_eq_true] at ha hb <;> simp only [kd]
    case tup.tup xs ys =>
      rw [eqItems_nice xs ys fun x hx y hy => eqN_nice st n x y ((niceL_all n xs).mp ha x hx) ((niceL_all n ys).mp hb y hy)]
      simp
    case lst.lst xs ys =>
      rw [eqItems_nice xs ys fun x hx y hy => eqN_nice st n x y ((niceL_all n xs).mp ha x hx) ((niceL_all n ys).mp hb y hy)]
      simp
    all_goals simp [Bool.beq_eq_decide_eq]
open Classical in
theorem eqD_nice {a b : D} {st : Sto} (ha : nice depth a = true) (hb : nice depth b = true) : eqD a b st = .ok (.bl (decide (a = b))) st := by
  unfold eqD; rw [eqN_nice st depth a b ha hb]
open Classical in
theorem neD_nice {a b : D} {st : Sto} (ha : nice depth a = true) (hb : nice depth b = true) : neD a b st = .ok (.bl (!decide (a = b))) st := by
  unfold neD; rw [eqN_nice st depth a b ha hb]
/-- a place -/
noncomputable def pl (ws : List Str) : D := .tup (ws.map .str)
theorem niceL_str (n : Nat) (ws : List Str) : niceL (n + 1) (ws.map .str) = true := by
  rw [niceL_all]
  intro x hx
  obtain ⟨w, _, rfl⟩ := List.mem_map.mp hx
  rfl
theorem nice_pl (n : Nat) (ws : List Str) : nice (n + 2) (pl ws) = true := niceL_str n ws
theorem nice_pl' (ws : List Str) : nice depth (pl ws) = true := nice_pl 48 ws
theorem cutL_to {α : Type} (xs : List α) (n : Nat) : cutL xs none (some (n : Int)) = xs.take n := by
  unfold cutL
  rw [HT.sIx_none, HT.sIx_nat, List.drop_zero, Nat.sub_zero]
  by_cases h : n ≤ xs.length
  · rw [Nat.min_eq_left h]
  · rw [Nat.min_eq_right (by omega), List.take_length, List.take_of_length_le (by omega)]
theorem tuple_lst (xs : List D) (st : Sto) : tupleD [.lst xs] st = .ok (.tup xs) st := rfl
/-! ### comprehensions and loops -/
theorem compD_map {chk : Sto → Prop} {t : TgD} {fe : DE} {st : Sto} (IE : Ev → Prop) (h : D → D) (hc : chk st) : ∀ (xs : List D) (ρ : Ev) (acc : List D), IE ρ → acc.length + xs.length ≤ small →
    (∀ x ∈ xs, ∀ ρ, IE ρ → ∃ ρ1, t x ρ = some ρ1 ∧ IE ρ1 ∧ fe ρ1 st = .ok (h x) st) → compD chk t dTrue fe xs ρ st acc = .ok (acc ++ xs.map h) st
  | [], ρ, acc, _, _, _ => by simp [compD, hc]
  | x :: xs, ρ, acc, hI, hl, hx => by
    obtain ⟨ρ1, e1, h1, e2⟩ := hx x List.mem_cons_self ρ hI
    unfold compD
    rw [if_pos ⟨hc, by simp at hl; omega⟩, e1]
    dsimp only [dTrue]
    rw [e2]
    dsimp only
    rw [compD_map IE h hc xs ρ1 (acc ++ [h x]) h1 (by simp at hl ⊢; omega) fun y hy => hx y (List.mem_cons_of_mem _ hy)]
    simp
/-- a turn that goes on -/
theorem loop_nil {chk : Sto → Prop} {t : TgD} {g : DS} {ρ : Ev} {st : Sto} (hc : chk st) : loopD chk t g [] ρ st = .nx ρ st := by
  unfold loopD; rw [if_pos hc]
theorem loop_nx {chk : Sto → Prop} {t : TgD} {g : DS} {x : D} {xs : List D} {ρ ρ1 ρ2 : Ev} {st st2 : Sto} (hc : chk st) (ht : t x ρ = some ρ1) (hg : g ρ1 st = .nx ρ2 st2) : loopD chk t g (x :: xs) ρ st = loopD chk t g xs ρ2 st2 := by
  rw [loopD, if_pos hc, ht]; dsimp only; rw [hg]
theorem mulOk_r (i j : Int) (h1 : -(2 ^ 64) < j) (h2 : j < 2 ^ 64) : mulOk i j = true := by
  unfold mulOk
  rw [decide_eq_true h1, decide_eq_true h2]
  simp
theorem mulOk_l (i j : Int) (h1 : -(2 ^ 64) < i) (h2 : i < 2 ^ 64) : mulOk i j = true := by
  unfold mulOk
  rw [decide_eq_true h1, decide_eq_true h2]
  simp
theorem mul2_int (i j : Int) (st : Sto) (h : mulOk i j = true) : mul2D (.int i) (.int j) st = .ok (.int (i * j)) st := by
  simp [mul2D, mulD, intOp, h]
theorem mod_int (i j : Int) (st : Sto) (h : 0 < j) : modD (.int i) (.int j) st = .ok (.int (i % j)) st := by
  simp [modD, intOp, h]
theorem fdiv_int (i j : Int) (st : Sto) (h : 0 < j) (h2 : j < 1073741824) : fdivD (.int i) (.int j) st = .ok (.int (i / j)) st := by
  have e : divOk i j = true := @decide_eq_true (0 < j ∧ j < 1073741824) (Classical.propDecidable _) ⟨h, h2⟩
  simp [fdivD, intOp, e]
theorem addD_int (a b : Int) (st : Sto) : addD (.int a) (.int b) st = .ok (.int (a + b)) st := rfl
theorem subD_int (a b : Int) (st : Sto) : subD (.int a) (.int b) st = .ok (.int (a - b)) st := rfl
/-- the law's promise from its meaning -/
theorem law_sp {K : PySem.W.Frag} {F : FD} (hF : ∀ ns : List Int, ns.length ≤ 63 → ∃ st, F [.scr (ns.map .int)] [] = .ok (.bl true) st) (H : Hp) (a : Addr) (ns : List Int) (hl : ns.length ≤ 63) (ho : Only H) (hs : SqL K H a (ns.map V.int)) :
    spD K F [.ref a] H (fun v _ => v = .bl true) fun _ _ _ => False := by
  obtain ⟨st, e⟩ := hF ns hl
  refine ⟨[], [.scr (ns.map .int)], [], ⟨rfl, List.nodup_nil, fun i a s h => by simp at h⟩, Reps.one (Rep.scr_i.mpr ⟨a, _, rfl, SqF.of hs ?_, ?_⟩), ?_⟩
  · rcases ho a with h | ⟨o, xs, h⟩ <;> rw [h] <;> intro z <;> cases z
  · have : ∀ (ms : List Int), Reps K [] H (ms.map D.int) (ms.map V.int) := by
      intro ms
      induction ms with
      | nil => exact Reps.nil_i.mpr rfl
      | cons m ms ih => exact Reps.cons_i.mpr ⟨_, _, rfl, Rep.int_i.mpr rfl, ih⟩
    exact this ns
  · rw [e]
    exact fun O' H' _ _ v r => Rep.bl_i.mp r
/-! ### what a simp unfolds: meanings at their data -/
section
variable {α β : Type} {ρ : Ev} {st : Sto} {f fa fb fc fo : DE} {ta tb t : DT} {g g' : DS} {da : DA} {i : Nat} {G : D → D → Sto → Out D} {H : D → D → Sto → Out (List D)}
@[simp] theorem z_bind_ok (a : α) (st : Sto) (k : α → Sto → Out β) : (Out.ok a st).bind k = k a st := rfl
@[simp] theorem z_bind_bad (k : α → Sto → Out β) : (Out.bad : Out α).bind k = .bad := rfl
@[simp] theorem z_to_ok (a : α) (st : Sto) (k : α → Sto → OutS) : (Out.ok a st).to k = k a st := rfl
@[simp] theorem z_var : dVar i ρ st = match ρ[i]? with
  | some (some d) => .ok d st
  | _ => .bad := rfl
@[simp] theorem z_C (d : D) : dC d ρ st = .ok d st := rfl
@[simp] theorem z_bin : dBin G fa fb ρ st = (fa ρ st).bind fun x st1 => (fb ρ st1).bind fun y st2 => G x y st2 := rfl
@[simp] theorem z_binF : dBinF H fa fb ρ st = (fa ρ st).bind fun x st1 => (fb ρ st1).bind fun y st2 => H x y st2 := rfl
@[simp] theorem z_B : dB f ρ st = (f ρ st).bind asB := rfl
@[simp] theorem z_asB (b : Bool) : asB (.bl b) st = .ok b st := rfl
@[simp] theorem z_asInt (b : Int) : asInt (.int b) st = .ok (some b) st := rfl
@[simp] theorem z_and : dAnd ta tb ρ st = (ta ρ st).bind fun x st1 => if x = true then tb ρ st1 else .ok false st1 := rfl
@[simp] theorem z_or : dOr ta tb ρ st = (ta ρ st).bind fun x st1 => if x = true then .ok true st1 else tb ρ st1 := rfl
@[simp] theorem z_not : dNot ta ρ st = (ta ρ st).bind fun x st1 => .ok (!x) st1 := rfl
@[simp] theorem z_andV : dAndV fa fb ρ st = (fa ρ st).bind fun d st1 => (asB d st1).bind fun x st2 => if x = true then fb ρ st2 else .ok (.bl false) st2 := rfl
@[simp] theorem z_orV : dOrV fa fb ρ st = (fa ρ st).bind fun d st1 => (asB d st1).bind fun x st2 => if x = true then .ok (.bl true) st2 else fb ρ st2 := rfl
@[simp] theorem z_notV : dNotV fa ρ st = (fa ρ st).bind fun d st1 => (asB d st1).bind fun x st2 => .ok (.bl (!x)) st2 := rfl
@[simp] theorem z_if : dIf t fa fb ρ st = (t ρ st).bind fun x st1 => if x = true then fa ρ st1 else fb ρ st1 := rfl
@[simp] theorem z_chain {G' : D → D → Sto → Out D} : dChain G G' fa fb fc ρ st = (fa ρ st).bind fun x st1 => (fb ρ st1).bind fun y st2 => (G x y st2).bind fun z st3 => (asB z st3).bind fun k st4 =>
  if k = true then (fc ρ st4).bind fun w st5 => G' y w st5 else .ok (.bl false) st4 := rfl
@[simp] theorem z_nil : dNil ρ st = .ok [] st := rfl
@[simp] theorem z_cons : dCons f da ρ st = (f ρ st).bind fun x st1 => (da ρ st1).bind fun xs st2 => .ok (x :: xs) st2 := rfl
@[simp] theorem z_tup : dTup da ρ st = (da ρ st).bind fun xs st1 => if xs.length ≤ small then .ok (.tup xs) st1 else .bad := rfl
@[simp] theorem z_lst : dLst da ρ st = (da ρ st).bind fun xs st1 => if xs.length ≤ small then .ok xs st1 else .bad := rfl
@[simp] theorem z_F : dF da ρ st = (da ρ st).bind fun xs st1 => .ok (.lst xs) st1 := rfl
@[simp] theorem z_sl {γ : D → Option Int → Option Int → Sto → Out α} {l h : DO} : dSl γ f l h ρ st = (f ρ st).bind fun x st1 => (l ρ st1).bind fun lo st2 => (h ρ st2).bind fun hi st3 => γ x lo hi st3 := rfl
@[simp] theorem z_noPart : dNoPart ρ st = .ok none st := rfl
@[simp] theorem z_part : dPart f ρ st = (f ρ st).bind asInt := rfl
@[simp] theorem z_call {γ : List D → Sto → Out α} : dCall γ da ρ st = (da ρ st).bind γ := rfl
@[simp] theorem z_comp {caps : List Nat} {nT : Nat} {fi : DI} {tg : TgD} : dComp caps nT fi tg t f ρ st = (fi ρ st).bind fun q st1 => compD q.2 tg t f q.1 (capEv ρ caps nT) st1 [] := rfl
@[simp] theorem z_seq : dSeq f ρ st = (f ρ st).bind fun d st1 => match itemsOf st1 d with
  | some xs => .ok (xs, fun st => itemsOf st d = some xs) st1
  | none => .bad := rfl
@[simp] theorem z_inst {T : String} : dInst T f ρ st = (f ρ st).bind fun d st1 => match tyName d with
  | some t => .ok (.bl (subTy t T)) st1
  | none => .bad := rfl
@[simp] theorem z_neg : dNeg f ρ st = (f ρ st).bind fun d st1 => match d with
  | .int i => .ok (.int (-i)) st1
  | _ => .bad := rfl
@[simp] theorem z_BM {γ : D → List D → Sto → Out D} : dBM γ fo da ρ st = (fo ρ st).bind fun d st1 => match d with
  | .str z => (da ρ st1).bind fun ds st2 => γ (.str z) ds st2
  | _ => .bad := rfl
@[simp] theorem z_sNext : sNext ρ st = .nx ρ st := rfl
@[simp] theorem z_sBreak : sBreak ρ st = .bk ρ st := rfl
@[simp] theorem z_sCont : sCont ρ st = .ct ρ st := rfl
@[simp] theorem z_sSeq : sSeq g g' ρ st = match g ρ st with
  | .nx ρ' st' => g' ρ' st'
  | r => r := rfl
@[simp] theorem z_sExpr : sExpr f ρ st = (f ρ st).to fun _ st1 => .nx ρ st1 := rfl
@[simp] theorem z_sRet : sRet f ρ st = (f ρ st).to fun d st1 => .rt d st1 := rfl
@[simp] theorem z_sRetN : sRetN ρ st = .rt .non st := rfl
@[simp] theorem z_sIf : sIf t g g' ρ st = (t ρ st).to fun x st1 => if x = true then g ρ st1 else g' ρ st1 := rfl
@[simp] theorem z_sSet : sSet i f ρ st = (f ρ st).to fun d st1 => .nx (ρ.set i (some d)) st1 := rfl
@[simp] theorem z_sSetF : sSetF i da ρ st = (da ρ st).to fun ds st1 => .nx (ρ.set i (some (.res st1.length))) (st1 ++ [.lst ds]) := rfl
@[simp] theorem z_sAsg {tg : TgD} : sAsg tg f ρ st = (f ρ st).to fun d st1 => match tg d ρ with
  | some ρ' => .nx ρ' st1
  | none => .bad := rfl
@[simp] theorem z_sFor {fi : DI} {tg : TgD} : sFor fi tg g ρ st = (fi ρ st).to fun q st1 => loopD q.2 tg g q.1 ρ st1 := rfl
@[simp] theorem z_sAdd : sAdd i f ρ st = match ρ[i]? with
  | some (some (.int z)) => (f ρ st).to fun v st1 => match v with
    | .int y => .nx (ρ.set i (some (.int (z + y)))) st1
    | _ => .bad
  | _ => .bad := rfl
@[simp] theorem z_runF {N n : Nat} {ds : List D} : runF N n g ds st = if ds.length = n then (match g (ds.map some ++ List.replicate (N - n) none) st with
  | .nx _ st' => .ok .non st'
  | .rt d st' => .ok d st'
  | _ => .bad) else .bad := rfl
@[simp] theorem z_addD (a b : Int) (st : Sto) : addD (.int a) (.int b) st = .ok (.int (a + b)) st := rfl
@[simp] theorem z_subD (a b : Int) (st : Sto) : subD (.int a) (.int b) st = .ok (.int (a - b)) st := rfl
theorem small_ge {n : Nat} (h : n ≤ 1000) : n ≤ small := Nat.le_trans h (by decide)
@[simp] theorem z_small0 : (0 : Nat) ≤ small := Nat.zero_le _
@[simp] theorem z_small1 : (1 : Nat) ≤ small := by decide
@[simp] theorem z_small2 : (2 : Nat) ≤ small := by decide
@[simp] theorem z_small3 : (3 : Nat) ≤ small := by decide
@[simp] theorem z_small4 : (4 : Nat) ≤ small := by decide
@[simp] theorem z_small5 : (5 : Nat) ≤ small := by decide
@[simp] theorem z_small6 : (6 : Nat) ≤ small := by decide
end
end DL

end
/-! K42a -/
section
set_option Elab.async false
set_option linter.all false
set_option maxRecDepth 100000
namespace K42
open PySem L2 DL
noncomputable def top (i : Nat) : Stmt := PySem.Challenge.pw_cardplaces_k42_whole_closed.main.body.getD i (.Pass ⟨0, 0, 0, 0⟩)
noncomputable abbrev szPanes___init__ : Stmt := inClass (top 7) 0
theorem sczPanes___init__ : FnScope ["self"] ["self"] (defScope szPanes___init__) := ⟨rfl, rfl, rfl, by decide +kernel, rfl, by decide +kernel, by decide +kernel⟩
noncomputable def gzPanes___init__ (cv : Nat → Addr) : DS := (sSeq (sFldS (cv 3) "shown" (dVar 0) dNewK) (sSeq (sFldF (cv 3) "row" (dVar 0) (dLst dNil)) (sFldS (cv 3) "made" (dVar 0) (dC (.int 0)))))
noncomputable def FzPanes___init__ (cv : Nat → Addr) : FD := runF 1 1 (gzPanes___init__ cv)
noncomputable abbrev szPanes_add : Stmt := inClass (top 7) 1
theorem sczPanes_add : FnScope ["self", "name", "place"] ["self", "name", "place"] (defScope szPanes_add) := ⟨rfl, rfl, rfl, by decide +kernel, rfl, by decide +kernel, by decide +kernel⟩
noncomputable def gzPanes_add (cv : Nat → Addr) : DS := (sSeq (sIf (dB (dBin inDd (dVar 1) (dFld (cv 3) "shown" (dVar 0)))) (sRaise (cv 13) (dCons (dC (.str "a pane has this name")) dNil)) sNext) (sPutD (dFld (cv 3) "shown" (dVar 0)) (dVar 1) (dVar 2)))
noncomputable def FzPanes_add (cv : Nat → Addr) : FD := runX 3 3 (gzPanes_add cv)
noncomputable abbrev sz_law_cell : Stmt := top 9
theorem scz_law_cell : FnScope ["_law_script", "_law_k"] ["_law_script", "_law_k"] (defScope sz_law_cell) := ⟨rfl, rfl, rfl, by decide +kernel, rfl, by decide +kernel, by decide +kernel⟩
noncomputable def gz_law_cell : DS := (sSeq (sIf (dB (dBin eqD (dVar 0) (dF (dLst dNil)))) (sRet (dBin mul2D (dC (.int 7)) (dVar 1))) sNext) (sRet (dBin addD (dBin ixD (dVar 0) (dBin modD (dVar 1) (dCall lenD (dCons (dVar 0) dNil)))) (dBin mul2D (dC (.int 6553)) (dBin fdivD (dVar 1) (dCall lenD (dCons (dVar 0) dNil)))))))
noncomputable def Fz_law_cell : FD := runF 2 2 (gz_law_cell)
noncomputable abbrev sz_law_drawn : Stmt := top 10
theorem scz_law_drawn : FnScope ["_law_script", "_law_k", "_law_many", "_law_cell_here"] ["_law_script", "_law_k", "_law_many"] (defScope sz_law_drawn) := ⟨rfl, rfl, rfl, by decide +kernel, rfl, by decide +kernel, by decide +kernel⟩
noncomputable def gz_law_drawn : DS := (sSeq (sSet 3 (dBin modD (dBin addD (dBin mul2D (dBin modD (dCall Fz_law_cell (dCons (dVar 0) (dCons (dVar 1) dNil))) (dC (.int 2147483563))) (dC (.int 69069))) (dBin mul2D (dC (.int 104723)) (dBin addD (dVar 1) (dC (.int 1))))) (dC (.int 2147483563)))) (sSeq (sSet 3 (dBin modD (dBin addD (dBin mul2D (dVar 3) (dVar 3)) (dBin fdivD (dVar 3) (dC (.int 3)))) (dC (.int 2147483399)))) (sRet (dBin modD (dBin fdivD (dBin modD (dBin addD (dBin mul2D (dVar 3) (dVar 3)) (dBin fdivD (dVar 3) (dC (.int 7)))) (dC (.int 2147483647))) (dC (.int 11))) (dVar 2)))))
noncomputable def Fz_law_drawn : FD := runF 4 3 (gz_law_drawn)
noncomputable abbrev sz_law_place : Stmt := top 11
theorem scz_law_place : FnScope ["_law_script", "_law_at"] ["_law_script", "_law_at"] (defScope sz_law_place) := ⟨rfl, rfl, rfl, by decide +kernel, rfl, by decide +kernel, by decide +kernel⟩
noncomputable def Ez_law_place_1 : DE := (dBin ixD (dC (.str "abc")) (dCall Fz_law_drawn (dCons (dVar 1) (dCons (dBin addD (dBin addD (dVar 2) (dC (.int 1))) (dVar 0)) (dCons (dC (.int 3)) dNil)))))
noncomputable def gz_law_place : DS := (sRet (dCall tupleD (dCons (dF (dComp [0, 1] 1 (dRng1 (dCons (dCall Fz_law_drawn (dCons (dVar 0) (dCons (dVar 1) (dCons (dC (.int 4)) dNil)))) dNil)) (tgName 0) dTrue Ez_law_place_1)) dNil)))
noncomputable def Fz_law_place : FD := runF 2 2 (gz_law_place)
noncomputable abbrev szPanes_check_name : Stmt := inClass (top 7) 12
theorem sczPanes_check_name : FnScope ["self", "name"] ["self", "name"] (defScope szPanes_check_name) := ⟨rfl, rfl, rfl, by decide +kernel, rfl, by decide +kernel, by decide +kernel⟩
noncomputable def gzPanes_check_name (cv : Nat → Addr) : DS := (sIf (dB (dBin notInDd (dVar 1) (dFld (cv 3) "shown" (dVar 0)))) (sRaise (cv 12) (dCons (dC (.str "no pane has this name")) dNil)) sNext)
noncomputable def FzPanes_check_name (cv : Nat → Addr) : FD := runX 2 2 (gzPanes_check_name cv)
noncomputable abbrev szPanes_place : Stmt := inClass (top 7) 2
theorem sczPanes_place : FnScope ["self", "name"] ["self", "name"] (defScope szPanes_place) := ⟨rfl, rfl, rfl, by decide +kernel, rfl, by decide +kernel, by decide +kernel⟩
noncomputable def gzPanes_place (cv : Nat → Addr) : DS := (sSeq (sExpr (dMeth (cv 3) "check_name" (FzPanes_check_name cv) (dVar 0) (dCons (dVar 1) dNil))) (sRet (getDd (dFld (cv 3) "shown" (dVar 0)) (dVar 1))))
noncomputable def FzPanes_place (cv : Nat → Addr) : FD := runX 2 2 (gzPanes_place cv)
noncomputable abbrev szPanes_visit : Stmt := inClass (top 7) 4
theorem sczPanes_visit : FnScope ["self", "name", "place", "step"] ["self", "name", "place"] (defScope szPanes_visit) := ⟨rfl, rfl, rfl, by decide +kernel, rfl, by decide +kernel, by decide +kernel⟩
noncomputable def gzPanes_visit (cv : Nat → Addr) : DS := (sSeq (sSet 3 (dTup (dCons (dVar 1) (dCons (dMeth (cv 3) "place" (FzPanes_place cv) (dVar 0) (dCons (dVar 1) dNil)) (dCons (dVar 2) dNil))))) (sSeq (sFldF (cv 3) "row" (dVar 0) (dBinF catL (dF (dSl cutF (dFld (cv 3) "row" (dVar 0)) dNoPart (dPart (dFld (cv 3) "made" (dVar 0))))) (dF (dLst (dCons (dVar 3) dNil))))) (sSeq (sFldAdd (cv 3) "made" (dVar 0) (dC (.int 1))) (sPutD (dFld (cv 3) "shown" (dVar 0)) (dVar 1) (dVar 2)))))
noncomputable def FzPanes_visit (cv : Nat → Addr) : FD := runX 4 3 (gzPanes_visit cv)
noncomputable abbrev szPanes_back : Stmt := inClass (top 7) 5
theorem sczPanes_back : FnScope ["self", "step"] ["self"] (defScope szPanes_back) := ⟨rfl, rfl, rfl, by decide +kernel, rfl, by decide +kernel, by decide +kernel⟩
noncomputable def gzPanes_back (cv : Nat → Addr) : DS := (sSeq (sIf (dB (dBin eqD (dFld (cv 3) "made" (dVar 0)) (dC (.int 0)))) (sRaise (cv 11) (dCons (dC (.str "no step is done")) dNil)) sNext) (sSeq (sFldSub (cv 3) "made" (dVar 0) (dC (.int 1))) (sSeq (sSet 1 (dBin ixD (dFld (cv 3) "row" (dVar 0)) (dFld (cv 3) "made" (dVar 0)))) (sSeq (sPutD (dFld (cv 3) "shown" (dVar 0)) (dBin ixD (dVar 1) (dC (.int 0))) (dBin ixD (dVar 1) (dC (.int 1)))) (sRet (dBin ixD (dVar 1) (dC (.int 0))))))))
noncomputable def FzPanes_back (cv : Nat → Addr) : FD := runX 2 1 (gzPanes_back cv)
noncomputable abbrev sz_law_panes : Stmt := top 12
theorem scz_law_panes : FnScope ["_law_script", "_law_at", "_law_panes_here", "_law_names", "_law_k", "_law_name", "_law_found"] ["_law_script", "_law_at", "_law_panes_here"] (defScope sz_law_panes) := ⟨rfl, rfl, rfl, by decide +kernel, rfl, by decide +kernel, by decide +kernel⟩
noncomputable def stz_law_panes_p1 : Stmt := (defBody sz_law_panes).getD 0 (.Pass ⟨0, 0, 0, 0⟩)
noncomputable def stz_law_panes_p2 : Stmt := (defBody sz_law_panes).getD 1 (.Pass ⟨0, 0, 0, 0⟩)
noncomputable def stz_law_panes_p3 : Stmt := (defBody sz_law_panes).getD 2 (.Pass ⟨0, 0, 0, 0⟩)
noncomputable def stz_law_panes_p4 : Stmt := (defBody sz_law_panes).getD 3 (.Pass ⟨0, 0, 0, 0⟩)
noncomputable def stz_law_panes_p5 : Stmt := (defBody sz_law_panes).getD 4 (.Pass ⟨0, 0, 0, 0⟩)
noncomputable def stz_law_panes_p6 : Stmt := (defBody sz_law_panes).getD 5 (.Pass ⟨0, 0, 0, 0⟩)
noncomputable def Pz_law_panes_p1 : DS := (sSet 3 (dF (dLst (dCons (dC (.str "p")) (dCons (dC (.str "q")) (dCons (dC (.str "r")) dNil))))))
noncomputable def Bz_law_panes_1 (cv : Nat → Addr) : DS := (sExpr (dMeth (cv 3) "add" (FzPanes_add cv) (dVar 2) (dCons (dVar 5) (dCons (dCall Fz_law_place (dCons (dVar 0) (dCons (dBin addD (dVar 1) (dBin mul2D (dC (.int 6)) (dVar 4))) dNil))) dNil))))
noncomputable def Pz_law_panes_p2 (cv : Nat → Addr) : DS := (sFor (dEnum (dVar 3)) (tgTup [4, 5]) (Bz_law_panes_1 cv))
noncomputable def Ez_law_panes_1 (cv : Nat → Addr) : DE := (dMeth (cv 3) "place" (FzPanes_place cv) (dVar 1) (dCons (dVar 0) dNil))
noncomputable def Pz_law_panes_p3 (cv : Nat → Addr) : DS := (sSetF 6 (dLst (dCons (dF (dComp [2] 1 (dSeq (dVar 3)) (tgName 0) dTrue (Ez_law_panes_1 cv))) dNil)))
noncomputable def Ez_law_panes_2 (cv : Nat → Addr) : DE := (dMeth (cv 3) "place" (FzPanes_place cv) (dVar 1) (dCons (dVar 0) dNil))
noncomputable def Bz_law_panes_2 (cv : Nat → Addr) : DS := (sSeq (sSet 5 (dBin ixD (dVar 3) (dCall Fz_law_drawn (dCons (dVar 0) (dCons (dBin addD (dBin addD (dVar 1) (dC (.int 21))) (dBin mul2D (dC (.int 7)) (dVar 4))) (dCons (dC (.int 3)) dNil)))))) (sSeq (sExpr (dMeth (cv 3) "visit" (FzPanes_visit cv) (dVar 2) (dCons (dVar 5) (dCons (dCall Fz_law_place (dCons (dVar 0) (dCons (dBin addD (dBin addD (dVar 1) (dC (.int 22))) (dBin mul2D (dC (.int 7)) (dVar 4))) dNil))) dNil)))) (sExpr (dAppend (dVar 6) (dF (dComp [2] 1 (dSeq (dVar 3)) (tgName 0) dTrue (Ez_law_panes_2 cv)))))))
noncomputable def Pz_law_panes_p4 (cv : Nat → Addr) : DS := (sFor (dRng1 (dCons (dCall Fz_law_drawn (dCons (dVar 0) (dCons (dBin addD (dVar 1) (dC (.int 20))) (dCons (dC (.int 9)) dNil)))) dNil)) (tgName 4) (Bz_law_panes_2 cv))
noncomputable def Bz_law_panes_3 (cv : Nat → Addr) : DS := (sExpr (dMeth (cv 3) "back" (FzPanes_back cv) (dVar 2) dNil))
noncomputable def Pz_law_panes_p5 (cv : Nat → Addr) : DS := (sFor (dRng1 (dCons (dCall Fz_law_drawn (dCons (dVar 0) (dCons (dBin addD (dVar 1) (dC (.int 90))) (dCons (dCall lenD (dCons (dVar 6) dNil)) dNil)))) dNil)) (tgName 4) (Bz_law_panes_3 cv))
noncomputable def Pz_law_panes_p6 : DS := (sRet (dVar 6))
noncomputable def gz_law_panes (cv : Nat → Addr) : DS := (sSeq Pz_law_panes_p1 (sSeq (Pz_law_panes_p2 cv) (sSeq (Pz_law_panes_p3 cv) (sSeq (Pz_law_panes_p4 cv) (sSeq (Pz_law_panes_p5 cv) Pz_law_panes_p6)))))
noncomputable def Fz_law_panes (cv : Nat → Addr) : FD := runX 7 3 (gz_law_panes cv)
noncomputable abbrev szPanes_steps : Stmt := inClass (top 7) 7
theorem sczPanes_steps : FnScope ["self"] ["self"] (defScope szPanes_steps) := ⟨rfl, rfl, rfl, by decide +kernel, rfl, by decide +kernel, by decide +kernel⟩
noncomputable def gzPanes_steps (cv : Nat → Addr) : DS := (sRet (dF (dCall listF (dCons (dFld (cv 3) "row" (dVar 0)) dNil))))
noncomputable def FzPanes_steps (cv : Nat → Addr) : FD := runF 1 1 (gzPanes_steps cv)
noncomputable abbrev szPanes_done : Stmt := inClass (top 7) 8
theorem sczPanes_done : FnScope ["self"] ["self"] (defScope szPanes_done) := ⟨rfl, rfl, rfl, by decide +kernel, rfl, by decide +kernel, by decide +kernel⟩
noncomputable def gzPanes_done (cv : Nat → Addr) : DS := (sRet (dFld (cv 3) "made" (dVar 0)))
noncomputable def FzPanes_done (cv : Nat → Addr) : FD := runF 1 1 (gzPanes_done cv)
noncomputable abbrev szPanes_back_in : Stmt := inClass (top 7) 9
theorem sczPanes_back_in : FnScope ["self", "name", "many"] ["self", "name"] (defScope szPanes_back_in) := ⟨rfl, rfl, rfl, by decide +kernel, rfl, by decide +kernel, by decide +kernel⟩
noncomputable def EzPanes_back_in_1 : DE := (dBin ixD (dVar 0) (dC (.int 0)))
noncomputable def WzPanes_back_in_1 : DS := (sAdd 2 (dC (.int 1)))
noncomputable def VzPanes_back_in_1 (cv : Nat → Addr) : DT := (dB (dBin neD (dMeth (cv 3) "back" (FzPanes_back cv) (dVar 0) dNil) (dVar 1)))
noncomputable def gzPanes_back_in (cv : Nat → Addr) : DS := (sSeq (sExpr (dMeth (cv 3) "check_name" (FzPanes_check_name cv) (dVar 0) (dCons (dVar 1) dNil))) (sSeq (sIf (dB (dBin notInD (dVar 1) (dF (dComp [] 1 (dSeq (dF (dSl cutF (dFld (cv 3) "row" (dVar 0)) dNoPart (dPart (dFld (cv 3) "made" (dVar 0)))))) (tgName 0) dTrue EzPanes_back_in_1)))) (sRaise (cv 11) (dCons (dC (.str "no step of this pane is done")) dNil)) sNext) (sSeq (sSet 2 (dC (.int 1))) (sSeq (whileD 100 (VzPanes_back_in_1 cv) WzPanes_back_in_1) (sRet (dVar 2))))))
noncomputable def FzPanes_back_in (cv : Nat → Addr) : FD := runX 3 2 (gzPanes_back_in cv)
noncomputable abbrev szsteps_of_others : Stmt := top 6
theorem sczsteps_of_others : FnScope ["steps", "name"] ["steps", "name"] (defScope szsteps_of_others) := ⟨rfl, rfl, rfl, by decide +kernel, rfl, by decide +kernel, by decide +kernel⟩
noncomputable def Ezsteps_of_others_1 : DE := (dVar 0)
noncomputable def Czsteps_of_others_1 : DT := (dB (dBin neD (dBin ixD (dVar 0) (dC (.int 0))) (dVar 1)))
noncomputable def gzsteps_of_others : DS := (sRetF (dComp [1] 1 (dSeq (dVar 0)) (tgName 0) Czsteps_of_others_1 Ezsteps_of_others_1))
noncomputable def Fzsteps_of_others : FD := runF 2 2 (gzsteps_of_others)
noncomputable abbrev szPanes_close : Stmt := inClass (top 7) 10
theorem sczPanes_close : FnScope ["self", "name", "many"] ["self", "name"] (defScope szPanes_close) := ⟨rfl, rfl, rfl, by decide +kernel, rfl, by decide +kernel, by decide +kernel⟩
noncomputable def gzPanes_close (cv : Nat → Addr) : DS := (sSeq (sExpr (dMeth (cv 3) "check_name" (FzPanes_check_name cv) (dVar 0) (dCons (dVar 1) dNil))) (sSeq (sSet 2 (dCall lenD (dCons (dFld (cv 3) "row" (dVar 0)) dNil))) (sSeq (sFldS (cv 3) "made" (dVar 0) (dCall lenD (dCons (dCall Fzsteps_of_others (dCons (dF (dSl cutF (dFld (cv 3) "row" (dVar 0)) dNoPart (dPart (dFld (cv 3) "made" (dVar 0))))) (dCons (dVar 1) dNil))) dNil))) (sSeq (sFldS (cv 3) "row" (dVar 0) (dCall Fzsteps_of_others (dCons (dFld (cv 3) "row" (dVar 0)) (dCons (dVar 1) dNil)))) (sSeq (sExpr (dPopD (dFld (cv 3) "shown" (dVar 0)) (dVar 1))) (sRet (dBin subD (dVar 2) (dCall lenD (dCons (dFld (cv 3) "row" (dVar 0)) dNil)))))))))
noncomputable def FzPanes_close (cv : Nat → Addr) : FD := runX 3 2 (gzPanes_close cv)
noncomputable abbrev szPanes_names : Stmt := inClass (top 7) 3
theorem sczPanes_names : FnScope ["self"] ["self"] (defScope szPanes_names) := ⟨rfl, rfl, rfl, by decide +kernel, rfl, by decide +kernel, by decide +kernel⟩
noncomputable def gzPanes_names (cv : Nat → Addr) : DS := (sRet (dF (dCall sortDF (dCons (dFld (cv 3) "shown" (dVar 0)) dNil))))
noncomputable def FzPanes_names (cv : Nat → Addr) : FD := runF 1 1 (gzPanes_names cv)
noncomputable abbrev szPanes_forth : Stmt := inClass (top 7) 6
theorem sczPanes_forth : FnScope ["self", "step"] ["self"] (defScope szPanes_forth) := ⟨rfl, rfl, rfl, by decide +kernel, rfl, by decide +kernel, by decide +kernel⟩
noncomputable def gzPanes_forth (cv : Nat → Addr) : DS := (sSeq (sIf (dB (dBin eqD (dFld (cv 3) "made" (dVar 0)) (dCall lenD (dCons (dFld (cv 3) "row" (dVar 0)) dNil)))) (sRaise (cv 11) (dCons (dC (.str "no step is undone")) dNil)) sNext) (sSeq (sSet 1 (dBin ixD (dFld (cv 3) "row" (dVar 0)) (dFld (cv 3) "made" (dVar 0)))) (sSeq (sFldAdd (cv 3) "made" (dVar 0) (dC (.int 1))) (sSeq (sPutD (dFld (cv 3) "shown" (dVar 0)) (dBin ixD (dVar 1) (dC (.int 0))) (dBin ixD (dVar 1) (dC (.int 2)))) (sRet (dBin ixD (dVar 1) (dC (.int 0))))))))
noncomputable def FzPanes_forth (cv : Nat → Addr) : FD := runX 2 1 (gzPanes_forth cv)
noncomputable abbrev szPanes_seen : Stmt := inClass (top 7) 11
theorem sczPanes_seen : FnScope ["self", "name", "shown", "steps"] ["self", "name"] (defScope szPanes_seen) := ⟨rfl, rfl, rfl, by decide +kernel, rfl, by decide +kernel, by decide +kernel⟩
noncomputable def EzPanes_seen_1 : DE := (dVar 0)
noncomputable def CzPanes_seen_1 : DT := (dB (dBin eqD (dBin ixD (dVar 0) (dC (.int 0))) (dVar 1)))
noncomputable def EzPanes_seen_2 : DE := (dBin ixD (dVar 0) (dC (.int 2)))
noncomputable def gzPanes_seen (cv : Nat → Addr) : DS := (sSeq (sSet 2 (dMeth (cv 3) "place" (FzPanes_place cv) (dVar 0) (dCons (dVar 1) dNil))) (sSeq (sSet 3 (dF (dComp [1] 1 (dSeq (dFld (cv 3) "row" (dVar 0))) (tgName 0) CzPanes_seen_1 EzPanes_seen_1))) (sSeq (sIf (dB (dBin eqD (dCall lenD (dCons (dVar 3) dNil)) (dC (.int 0)))) (sRet (dF (dLst (dCons (dVar 2) dNil)))) sNext) (sRet (dF (dBinF catL (dF (dLst (dCons (dBin ixD (dBin ixD (dVar 3) (dC (.int 0))) (dC (.int 1))) dNil))) (dF (dComp [] 1 (dSeq (dVar 3)) (tgName 0) dTrue EzPanes_seen_2))))))))
noncomputable def FzPanes_seen (cv : Nat → Addr) : FD := runX 4 2 (gzPanes_seen cv)
noncomputable abbrev szlaw : Stmt := top 13
theorem sczlaw : FnScope ["_law_script", "_law_panes_here", "_law_found", "_law_rows", "_law_done", "_law_name", "_law_others", "_law_shown", "_law_own", "_law_copy", "_law_last", "_law_left", "_law_first", "_law_row"] ["_law_script"] (defScope szlaw) := ⟨rfl, rfl, rfl, by decide +kernel, rfl, by decide +kernel, by decide +kernel⟩
noncomputable def stzlaw_p1 : Stmt := (defBody szlaw).getD 0 (.Pass ⟨0, 0, 0, 0⟩)
noncomputable def stzlaw_p2 : Stmt := (defBody szlaw).getD 1 (.Pass ⟨0, 0, 0, 0⟩)
noncomputable def stzlaw_p3 : Stmt := (defBody szlaw).getD 2 (.Pass ⟨0, 0, 0, 0⟩)
noncomputable def stzlaw_p4 : Stmt := (defBody szlaw).getD 3 (.Pass ⟨0, 0, 0, 0⟩)
noncomputable def stzlaw_p5 : Stmt := (defBody szlaw).getD 4 (.Pass ⟨0, 0, 0, 0⟩)
noncomputable def stzlaw_p6 : Stmt := (defBody szlaw).getD 5 (.Pass ⟨0, 0, 0, 0⟩)
noncomputable def stzlaw_p7 : Stmt := (defBody szlaw).getD 6 (.Pass ⟨0, 0, 0, 0⟩)
noncomputable def stzlaw_p8 : Stmt := (defBody szlaw).getD 7 (.Pass ⟨0, 0, 0, 0⟩)
noncomputable def stzlaw_p9 : Stmt := (defBody szlaw).getD 8 (.Pass ⟨0, 0, 0, 0⟩)
noncomputable def stzlaw_p10 : Stmt := (ifBody stzlaw_p9).getD 0 (.Pass ⟨0, 0, 0, 0⟩)
noncomputable def stzlaw_p11 : Stmt := (ifBody stzlaw_p9).getD 1 (.Pass ⟨0, 0, 0, 0⟩)
noncomputable def stzlaw_p12 : Stmt := (ifBody stzlaw_p9).getD 2 (.Pass ⟨0, 0, 0, 0⟩)
noncomputable def stzlaw_p13 : Stmt := (ifBody stzlaw_p9).getD 3 (.Pass ⟨0, 0, 0, 0⟩)
noncomputable def stzlaw_p14 : Stmt := (ifBody stzlaw_p9).getD 4 (.Pass ⟨0, 0, 0, 0⟩)
noncomputable def stzlaw_p15 : Stmt := (defBody szlaw).getD 9 (.Pass ⟨0, 0, 0, 0⟩)
noncomputable def stzlaw_p16 : Stmt := (defBody szlaw).getD 10 (.Pass ⟨0, 0, 0, 0⟩)
noncomputable def stzlaw_p17 : Stmt := (defBody szlaw).getD 11 (.Pass ⟨0, 0, 0, 0⟩)
noncomputable def stzlaw_p18 : Stmt := (defBody szlaw).getD 12 (.Pass ⟨0, 0, 0, 0⟩)
noncomputable def stzlaw_p19 : Stmt := (defBody szlaw).getD 13 (.Pass ⟨0, 0, 0, 0⟩)
noncomputable def stzlaw_p20 : Stmt := (defBody szlaw).getD 14 (.Pass ⟨0, 0, 0, 0⟩)
noncomputable def stzlaw_p21 : Stmt := (defBody szlaw).getD 15 (.Pass ⟨0, 0, 0, 0⟩)
noncomputable def stzlaw_p22 : Stmt := (defBody szlaw).getD 16 (.Pass ⟨0, 0, 0, 0⟩)
noncomputable def stzlaw_p23 : Stmt := (defBody szlaw).getD 17 (.Pass ⟨0, 0, 0, 0⟩)
noncomputable def stzlaw_p24 : Stmt := (defBody szlaw).getD 18 (.Pass ⟨0, 0, 0, 0⟩)
noncomputable def stzlaw_p25 : Stmt := (defBody szlaw).getD 19 (.Pass ⟨0, 0, 0, 0⟩)
noncomputable def Pzlaw_p1 (cv : Nat → Addr) : DS := (sSet 1 (dMake (cv 3) (FzPanes___init__ cv) dNil))
noncomputable def Pzlaw_p2 (cv : Nat → Addr) : DS := (sSet 2 (dCall (Fz_law_panes cv) (dCons (dVar 0) (dCons (dC (.int 0)) (dCons (dVar 1) dNil)))))
noncomputable def Pzlaw_p3 (cv : Nat → Addr) : DS := (sSet 3 (dMeth (cv 3) "steps" (FzPanes_steps cv) (dVar 1) dNil))
noncomputable def Pzlaw_p4 (cv : Nat → Addr) : DS := (sSet 4 (dMeth (cv 3) "done" (FzPanes_done cv) (dVar 1) dNil))
noncomputable def Pzlaw_p5 : DS := (sSet 5 (dBin ixD (dF (dLst (dCons (dC (.str "p")) (dCons (dC (.str "q")) (dCons (dC (.str "r")) dNil))))) (dCall Fz_law_drawn (dCons (dVar 0) (dCons (dC (.int 100)) (dCons (dC (.int 3)) dNil))))))
noncomputable def Ezlaw_1 : DE := (dVar 0)
noncomputable def Czlaw_1 : DT := (dB (dBin neD (dVar 0) (dVar 1)))
noncomputable def Pzlaw_p6 : DS := (sSet 6 (dF (dComp [5] 1 (dSeq (dF (dLst (dCons (dC (.str "p")) (dCons (dC (.str "q")) (dCons (dC (.str "r")) dNil)))))) (tgName 0) Czlaw_1 Ezlaw_1)))
noncomputable def Ezlaw_2 (cv : Nat → Addr) : DE := (dMeth (cv 3) "place" (FzPanes_place cv) (dVar 1) (dCons (dVar 0) dNil))
noncomputable def Pzlaw_p7 (cv : Nat → Addr) : DS := (sSet 7 (dF (dComp [1] 1 (dSeq (dVar 6)) (tgName 0) dTrue (Ezlaw_2 cv))))
noncomputable def Ezlaw_3 : DE := (dVar 0)
noncomputable def Czlaw_2 : DT := (dB (dBin eqD (dBin ixD (dVar 0) (dC (.int 0))) (dVar 1)))
noncomputable def Pzlaw_p8 : DS := (sSet 8 (dF (dComp [5] 1 (dSeq (dF (dSl cutF (dVar 3) dNoPart (dPart (dVar 4))))) (tgName 0) Czlaw_2 Ezlaw_3)))
noncomputable def Pzlaw_p10 (cv : Nat → Addr) : DS := (sSet 9 (dMake (cv 3) (FzPanes___init__ cv) dNil))
noncomputable def Pzlaw_p11 (cv : Nat → Addr) : DS := (sExpr (dCall (Fz_law_panes cv) (dCons (dVar 0) (dCons (dC (.int 0)) (dCons (dVar 9) dNil)))))
noncomputable def Ezlaw_4 : DE := (dVar 0)
noncomputable def Czlaw_3 : DT := (dB (dBin eqD (dBin ixD (dBin ixD (dVar 2) (dVar 0)) (dC (.int 0))) (dVar 1)))
noncomputable def Pzlaw_p12 : DS := (sSet 10 (dBin ixD (dF (dComp [5, 3] 1 (dRng1 (dCons (dVar 4) dNil)) (tgName 0) Czlaw_3 Ezlaw_4)) (dNeg (dC (.int 1)))))
noncomputable def Pzlaw_p13 (cv : Nat → Addr) : DS := (sIf (dOr (dB (dBin neD (dMeth (cv 3) "back_in" (FzPanes_back_in cv) (dVar 9) (dCons (dVar 5) dNil)) (dBin subD (dVar 4) (dVar 10)))) (dOr (dB (dBin neD (dMeth (cv 3) "done" (FzPanes_done cv) (dVar 9) dNil) (dVar 10))) (dB (dBin neD (dMeth (cv 3) "place" (FzPanes_place cv) (dVar 9) (dCons (dVar 5) dNil)) (dBin ixD (dBin ixD (dVar 8) (dNeg (dC (.int 1)))) (dC (.int 1))))))) (sRet (dC (.bl false))) sNext)
noncomputable def Ezlaw_5 (cv : Nat → Addr) : DE := (dMeth (cv 3) "place" (FzPanes_place cv) (dVar 1) (dCons (dVar 0) dNil))
noncomputable def Pzlaw_p14 (cv : Nat → Addr) : DS := (sIf (dB (dBin neD (dF (dComp [9] 1 (dSeq (dF (dLst (dCons (dC (.str "p")) (dCons (dC (.str "q")) (dCons (dC (.str "r")) dNil)))))) (tgName 0) dTrue (Ezlaw_5 cv))) (dBin ixD (dVar 2) (dVar 10)))) (sRet (dC (.bl false))) sNext)
noncomputable def Pzlaw_p9 (cv : Nat → Addr) : DS := (sIf (dB (dBin neD (dVar 8) (dF (dLst dNil)))) (sSeq (Pzlaw_p10 cv) (sSeq (Pzlaw_p11 cv) (sSeq Pzlaw_p12 (sSeq (Pzlaw_p13 cv) (Pzlaw_p14 cv))))) sNext)
noncomputable def Ezlaw_6 : DE := (dVar 0)
noncomputable def Czlaw_4 : DT := (dB (dBin eqD (dBin ixD (dVar 0) (dC (.int 0))) (dVar 1)))
noncomputable def Pzlaw_p15 (cv : Nat → Addr) : DS := (sIf (dOr (dB (dBin neD (dMeth (cv 3) "close" (FzPanes_close cv) (dVar 1) (dCons (dVar 5) dNil)) (dCall lenD (dCons (dF (dComp [5] 1 (dSeq (dVar 3)) (tgName 0) Czlaw_4 Ezlaw_6)) dNil)))) (dB (dBin neD (dMeth (cv 3) "names" (FzPanes_names cv) (dVar 1) dNil) (dVar 6)))) (sRet (dC (.bl false))) sNext)
noncomputable def Ezlaw_7 : DE := (dVar 0)
noncomputable def Czlaw_5 : DT := (dB (dBin neD (dBin ixD (dVar 0) (dC (.int 0))) (dVar 1)))
noncomputable def Pzlaw_p16 : DS := (sSet 11 (dF (dComp [5] 1 (dSeq (dVar 3)) (tgName 0) Czlaw_5 Ezlaw_7)))
noncomputable def Pzlaw_p17 (cv : Nat → Addr) : DS := (sIf (dB (dBin neD (dMeth (cv 3) "steps" (FzPanes_steps cv) (dVar 1) dNil) (dVar 11))) (sRet (dC (.bl false))) sNext)
noncomputable def Ezlaw_8 : DE := (dVar 0)
noncomputable def Czlaw_6 : DT := (dB (dBin neD (dBin ixD (dVar 0) (dC (.int 0))) (dVar 1)))
noncomputable def Pzlaw_p18 (cv : Nat → Addr) : DS := (sIf (dB (dBin neD (dMeth (cv 3) "done" (FzPanes_done cv) (dVar 1) dNil) (dCall lenD (dCons (dF (dComp [5] 1 (dSeq (dF (dSl cutF (dVar 3) dNoPart (dPart (dVar 4))))) (tgName 0) Czlaw_6 Ezlaw_8)) dNil)))) (sRet (dC (.bl false))) sNext)
noncomputable def Ezlaw_9 (cv : Nat → Addr) : DE := (dMeth (cv 3) "place" (FzPanes_place cv) (dVar 1) (dCons (dVar 0) dNil))
noncomputable def Pzlaw_p19 (cv : Nat → Addr) : DS := (sIf (dB (dBin neD (dF (dComp [1] 1 (dSeq (dVar 6)) (tgName 0) dTrue (Ezlaw_9 cv))) (dVar 7))) (sRet (dC (.bl false))) sNext)
noncomputable def Wzlaw_1 (cv : Nat → Addr) : DS := (sExpr (dMeth (cv 3) "back" (FzPanes_back cv) (dVar 1) dNil))
noncomputable def Vzlaw_1 (cv : Nat → Addr) : DT := (dB (dBin gtD (dMeth (cv 3) "done" (FzPanes_done cv) (dVar 1) dNil) (dC (.int 0))))
noncomputable def Pzlaw_p20 (cv : Nat → Addr) : DS := (whileD 100 (Vzlaw_1 cv) (Wzlaw_1 cv))
noncomputable def Ezlaw_10 : DE := (dBin ixD (dBin ixD (dVar 1) (dC (.int 0))) (dLM indexD (dF (dLst (dCons (dC (.str "p")) (dCons (dC (.str "q")) (dCons (dC (.str "r")) dNil))))) (dCons (dVar 0) dNil)))
noncomputable def Pzlaw_p21 : DS := (sSet 12 (dF (dComp [2] 1 (dSeq (dVar 6)) (tgName 0) dTrue Ezlaw_10)))
noncomputable def Ezlaw_11 (cv : Nat → Addr) : DE := (dMeth (cv 3) "place" (FzPanes_place cv) (dVar 1) (dCons (dVar 0) dNil))
noncomputable def Pzlaw_p22 (cv : Nat → Addr) : DS := (sIf (dB (dBin neD (dF (dComp [1] 1 (dSeq (dVar 6)) (tgName 0) dTrue (Ezlaw_11 cv))) (dVar 12))) (sRet (dC (.bl false))) sNext)
noncomputable def Bzlaw_1 (cv : Nat → Addr) : DS := (sIf (dOr (dB (dBin neD (dMeth (cv 3) "forth" (FzPanes_forth cv) (dVar 1) dNil) (dBin ixD (dVar 13) (dC (.int 0))))) (dB (dBin neD (dMeth (cv 3) "place" (FzPanes_place cv) (dVar 1) (dCons (dBin ixD (dVar 13) (dC (.int 0))) dNil)) (dBin ixD (dVar 13) (dC (.int 2)))))) (sRet (dC (.bl false))) sNext)
noncomputable def Pzlaw_p23 (cv : Nat → Addr) : DS := (sFor (dSeq (dVar 11)) (tgName 13) (Bzlaw_1 cv))
noncomputable def Pzlaw_p24 (cv : Nat → Addr) : DS := (sExpr (dMeth (cv 3) "add" (FzPanes_add cv) (dVar 1) (dCons (dVar 5) (dCons (dTup (dCons (dC (.str "zz")) dNil)) dNil))))
noncomputable def Pzlaw_p25 (cv : Nat → Addr) : DS := (sRet (dAndV (dBin eqD (dMeth (cv 3) "seen" (FzPanes_seen cv) (dVar 1) (dCons (dVar 5) dNil)) (dF (dLst (dCons (dTup (dCons (dC (.str "zz")) dNil)) dNil)))) (dAndV (dBin eqD (dMeth (cv 3) "steps" (FzPanes_steps cv) (dVar 1) dNil) (dVar 11)) (dBin eqD (dMeth (cv 3) "place" (FzPanes_place cv) (dVar 1) (dCons (dVar 5) dNil)) (dTup (dCons (dC (.str "zz")) dNil))))))
noncomputable def gzlaw (cv : Nat → Addr) : DS := (sSeq (Pzlaw_p1 cv) (sSeq (Pzlaw_p2 cv) (sSeq (Pzlaw_p3 cv) (sSeq (Pzlaw_p4 cv) (sSeq Pzlaw_p5 (sSeq Pzlaw_p6 (sSeq (Pzlaw_p7 cv) (sSeq Pzlaw_p8 (sSeq (Pzlaw_p9 cv) (sSeq (Pzlaw_p15 cv) (sSeq Pzlaw_p16 (sSeq (Pzlaw_p17 cv) (sSeq (Pzlaw_p18 cv) (sSeq (Pzlaw_p19 cv) (sSeq (Pzlaw_p20 cv) (sSeq Pzlaw_p21 (sSeq (Pzlaw_p22 cv) (sSeq (Pzlaw_p23 cv) (sSeq (Pzlaw_p24 cv) (Pzlaw_p25 cv))))))))))))))))))))
noncomputable def Fzlaw (cv : Nat → Addr) : FD := runF 14 1 (gzlaw cv)
section
variable {P : Program} {w : World} {K : PySem.W.Frag} {mg : Str → Option Value} {base : Heap} {cv : Nat → Addr}
set_option maxHeartbeats 4000000 in
theorem okzPanes___init__ {f : Addr} {fd : FuncData} (F : Fun K "__init__" "Panes.__init__" szPanes___init__ f fd) (hm : Mk K (cv 3) f) (hb : Binds K fd ["self"] []) (hx : mg "Panes" = some (.ref (cv 3)))   (cl_Panes : Cls K (cv 3)) (na_Panes_made : NoAttr K (cv 3) "made") (na_Panes_row : NoAttr K (cv 3) "row") (na_Panes_shown : NoAttr K (cv 3) "shown")  : MkAt P w K mg base "Panes" (cv 3) 1 (FzPanes___init__ cv) :=
  mkAt (k := 0) F sczPanes___init__ hm hb hx fun cdv A outer s H E hr => (pds_cons (pd_fldS (pd_var 0) pd_dnewK cl_Panes na_Panes_shown) (pds_cons (pd_fldF (pd_var 0) (pdf_lst pda_nil) cl_Panes na_Panes_row) (pds_one (pd_fldS (pd_var 0) pd_int cl_Panes na_Panes_made))))
set_option maxHeartbeats 4000000 in
theorem okzPanes_add {f : Addr} {fd : FuncData} (F : Fun K "add" "Panes.add" szPanes_add f fd) (hm : Meth K (cv 3) "add" f) (hb : Binds K fd ["self", "name", "place"] [])   (cl_Panes : Cls K (cv 3)) (mg_Taken : mg "Taken" = some (.ref (cv 13))) (na_Panes_shown : NoAttr K (cv 3) "shown") (xc_Taken : PySem.W.excIn K (cv 13) [.type "ValueError", .type "Exception", .type "BaseException", .type "object"] "ValueError.__new__" = true)  : MtX P w K mg base (cv 3) "add" 1 (FzPanes_add cv) :=
  mtXAt (k := 0) F sczPanes_add hm hb fun cdv A outer s H E hr hx hxr => (pds_cons (pd_if (pdt_cmp (op_inDd hr.units) (pd_var 1) (pd_fld (pd_var 0) cl_Panes na_Panes_shown)) (pds_one (pd_raise hxr rfl rfl mg_Taken xc_Taken PySem.F.excBase_ValueError (pda_cons pd_str pda_nil))) pds_nil) (pds_one (pd_dput hr.units (pd_fld (pd_var 0) cl_Panes na_Panes_shown) (pd_var 1) (pd_var 2))))
set_option maxHeartbeats 4000000 in
theorem okz_law_cell {f : Addr} {fd : FuncData} (F : Fun K "_law_cell" "_law_cell" sz_law_cell f fd) (hm : mg "_law_cell" = some (.ref f)) (hb : Binds K fd ["_law_script", "_law_k"] []) (b_len : mg "len" = none)    : FnAt P w K mg base "_law_cell" 1 Fz_law_cell :=
  fnAt (k := 0) F scz_law_cell hm hb fun cdv A outer s H E hr => (pds_cons (pd_if (pdt_cmp (op_eqD hr.units) (pd_var 0) (pd_F (pdf_lst pda_nil))) (pds_one (pd_ret (pd_op op_mul2D pd_int (pd_var 1)))) pds_nil) (pds_one (pd_ret (pd_op op_addD (pd_ix (pd_var 0) (pd_op op_modD (pd_var 1) (pd_callB call_lenD rfl b_len PySem.boot_len (pda_cons (pd_var 0) pda_nil)))) (pd_op op_mul2D pd_int (pd_op op_fdivD (pd_var 1) (pd_callB call_lenD rfl b_len PySem.boot_len (pda_cons (pd_var 0) pda_nil))))))))
set_option maxHeartbeats 4000000 in
theorem okz_law_drawn {f : Addr} {fd : FuncData} (F : Fun K "_law_drawn" "_law_drawn" sz_law_drawn f fd) (hm : mg "_law_drawn" = some (.ref f)) (hb : Binds K fd ["_law_script", "_law_k", "_law_many"] [])    (hz_law_cell : FnAt P w K mg base "_law_cell" 1 Fz_law_cell) : FnAt P w K mg base "_law_drawn" 2 Fz_law_drawn :=
  fnAt (k := 1) F scz_law_drawn hm hb fun cdv A outer s H E hr => (pds_cons (pd_set 3 scz_law_drawn.nd rfl (by first | exact Or.inl rfl | exact Or.inr rfl) (pd_op op_modD (pd_op op_addD (pd_op op_mul2D (pd_op op_modD (pd_fn hz_law_cell hr (by decide) rfl (pda_cons (pd_var 0) (pda_cons (pd_var 1) pda_nil))) pd_int) pd_int) (pd_op op_mul2D pd_int (pd_op op_addD (pd_var 1) pd_int))) pd_int)) (pds_cons (pd_set 3 scz_law_drawn.nd rfl (by first | exact Or.inl rfl | exact Or.inr rfl) (pd_op op_modD (pd_op op_addD (pd_op op_mul2D (pd_var 3) (pd_var 3)) (pd_op op_fdivD (pd_var 3) pd_int)) pd_int)) (pds_one (pd_ret (pd_op op_modD (pd_op op_fdivD (pd_op op_modD (pd_op op_addD (pd_op op_mul2D (pd_var 3) (pd_var 3)) (pd_op op_fdivD (pd_var 3) pd_int)) pd_int) pd_int) (pd_var 2))))))
set_option maxHeartbeats 4000000 in
theorem okz_law_place {f : Addr} {fd : FuncData} (F : Fun K "_law_place" "_law_place" sz_law_place f fd) (hm : mg "_law_place" = some (.ref f)) (hb : Binds K fd ["_law_script", "_law_at"] []) (b_range : mg "range" = none) (b_tuple : mg "tuple" = none)   (hz_law_drawn : FnAt P w K mg base "_law_drawn" 2 Fz_law_drawn) : FnAt P w K mg base "_law_place" 3 Fz_law_place :=
  fnAt (k := 2) F scz_law_place hm hb fun cdv A outer s H E hr => (pds_one (pd_ret (pd_callTy call_tupleD rfl b_tuple PyProof.Rows.boot_tuple (pda_cons (pd_F (pdf_lc rfl ⟨Blk.of (N := ["_law_k", "_law_script", "_law_at"]) (caps := [0, 1]) (nT := 1) (by show blkB (defScope sz_law_place) _ ["_law_script", "_law_at"] _ _ _ = true; decide +kernel), fun _ _ _ _ => (pgd_name 0 (by show (["_law_k", "_law_script", "_law_at"] : List Str).Nodup; decide +kernel) rfl (by first | exact Or.inl rfl | exact Or.inr rfl)), fun _ _ _ _ => pts_nil, fun _ _ _ _ => (pd_ix pd_str (pd_fn hz_law_drawn hr (by decide) rfl (pda_cons (pd_var 1) (pda_cons (pd_op op_addD (pd_op op_addD (pd_var 2) pd_int) (pd_var 0)) (pda_cons pd_int pda_nil)))))⟩ (pid_range1 rfl b_range (pda_cons (pd_fn hz_law_drawn hr (by decide) rfl (pda_cons (pd_var 0) (pda_cons (pd_var 1) (pda_cons pd_int pda_nil)))) pda_nil)))) pda_nil))))
set_option maxHeartbeats 4000000 in
theorem okzPanes_check_name {f : Addr} {fd : FuncData} (F : Fun K "check_name" "Panes.check_name" szPanes_check_name f fd) (hm : Meth K (cv 3) "check_name" f) (hb : Binds K fd ["self", "name"] [])   (cl_Panes : Cls K (cv 3)) (mg_NoPane : mg "NoPane" = some (.ref (cv 12))) (na_Panes_shown : NoAttr K (cv 3) "shown") (xc_NoPane : PySem.W.excIn K (cv 12) [.type "ValueError", .type "Exception", .type "BaseException", .type "object"] "ValueError.__new__" = true)  : MtX P w K mg base (cv 3) "check_name" 1 (FzPanes_check_name cv) :=
  mtXAt (k := 0) F sczPanes_check_name hm hb fun cdv A outer s H E hr hx hxr => (pds_one (pd_if (pdt_cmp (op_notInDd hr.units) (pd_var 1) (pd_fld (pd_var 0) cl_Panes na_Panes_shown)) (pds_one (pd_raise hxr rfl rfl mg_NoPane xc_NoPane PySem.F.excBase_ValueError (pda_cons pd_str pda_nil))) pds_nil))
set_option maxHeartbeats 4000000 in
theorem okzPanes_place {f : Addr} {fd : FuncData} (F : Fun K "place" "Panes.place" szPanes_place f fd) (hm : Meth K (cv 3) "place" f) (hb : Binds K fd ["self", "name"] [])   (cl_Panes : Cls K (cv 3)) (na_Panes_shown : NoAttr K (cv 3) "shown") (hzPanes_check_name : MtX P w K mg base (cv 3) "check_name" 1 (FzPanes_check_name cv)) : MtX P w K mg base (cv 3) "place" 2 (FzPanes_place cv) :=
  mtXAt (k := 1) F sczPanes_place hm hb fun cdv A outer s H E hr hx hxr => (pds_cons (pd_expr (pd_mtX hzPanes_check_name hx cl_Panes hr (by decide) (pd_var 0) (pda_cons (pd_var 1) pda_nil))) (pds_one (pd_ret (pd_dget hr.units (pd_fld (pd_var 0) cl_Panes na_Panes_shown) (pd_var 1)))))
set_option maxHeartbeats 4000000 in
theorem okzPanes_visit {f : Addr} {fd : FuncData} (F : Fun K "visit" "Panes.visit" szPanes_visit f fd) (hm : Meth K (cv 3) "visit" f) (hb : Binds K fd ["self", "name", "place"] [])   (cl_Panes : Cls K (cv 3)) (na_Panes_made : NoAttr K (cv 3) "made") (na_Panes_row : NoAttr K (cv 3) "row") (na_Panes_shown : NoAttr K (cv 3) "shown") (hzPanes_place : MtX P w K mg base (cv 3) "place" 2 (FzPanes_place cv)) : MtX P w K mg base (cv 3) "visit" 3 (FzPanes_visit cv) :=
  mtXAt (k := 2) F sczPanes_visit hm hb fun cdv A outer s H E hr hx hxr => (pds_cons (pd_set 3 sczPanes_visit.nd rfl (by first | exact Or.inl rfl | exact Or.inr rfl) (pd_tup (pda_cons (pd_var 1) (pda_cons (pd_mtX hzPanes_place hx cl_Panes hr (by decide) (pd_var 0) (pda_cons (pd_var 1) pda_nil)) (pda_cons (pd_var 2) pda_nil))))) (pds_cons (pd_fldF (pd_var 0) (pdf_op op_catL (pd_F (pdf_slice sl_F (pd_fld (pd_var 0) cl_Panes na_Panes_row) pdo_none (pdo_some (pd_fld (pd_var 0) cl_Panes na_Panes_made)))) (pd_F (pdf_lst (pda_cons (pd_var 3) pda_nil)))) cl_Panes na_Panes_row) (pds_cons (pd_fldAdd (pd_var 0) pd_int cl_Panes na_Panes_made) (pds_one (pd_dput hr.units (pd_fld (pd_var 0) cl_Panes na_Panes_shown) (pd_var 1) (pd_var 2))))))
set_option maxHeartbeats 4000000 in
theorem okzPanes_back {f : Addr} {fd : FuncData} (F : Fun K "back" "Panes.back" szPanes_back f fd) (hm : Meth K (cv 3) "back" f) (hb : Binds K fd ["self"] [])   (cl_Panes : Cls K (cv 3)) (mg_NoPlace : mg "NoPlace" = some (.ref (cv 11))) (na_Panes_made : NoAttr K (cv 3) "made") (na_Panes_row : NoAttr K (cv 3) "row") (na_Panes_shown : NoAttr K (cv 3) "shown") (xc_NoPlace : PySem.W.excIn K (cv 11) [.type "ValueError", .type "Exception", .type "BaseException", .type "object"] "ValueError.__new__" = true)  : MtX P w K mg base (cv 3) "back" 1 (FzPanes_back cv) :=
  mtXAt (k := 0) F sczPanes_back hm hb fun cdv A outer s H E hr hx hxr => (pds_cons (pd_if (pdt_cmp (op_eqD hr.units) (pd_fld (pd_var 0) cl_Panes na_Panes_made) pd_int) (pds_one (pd_raise hxr rfl rfl mg_NoPlace xc_NoPlace PySem.F.excBase_ValueError (pda_cons pd_str pda_nil))) pds_nil) (pds_cons (pd_fldSub (pd_var 0) pd_int cl_Panes na_Panes_made) (pds_cons (pd_set 1 sczPanes_back.nd rfl (by first | exact Or.inl rfl | exact Or.inr rfl) (pd_ix (pd_fld (pd_var 0) cl_Panes na_Panes_row) (pd_fld (pd_var 0) cl_Panes na_Panes_made))) (pds_cons (pd_dput hr.units (pd_fld (pd_var 0) cl_Panes na_Panes_shown) (pd_ix (pd_var 1) pd_int) (pd_ix (pd_var 1) pd_int)) (pds_one (pd_ret (pd_ix (pd_var 1) pd_int)))))))
set_option maxHeartbeats 4000000 in
theorem okz_law_panes_p1 (b_enumerate : mg "enumerate" = none) (b_len : mg "len" = none) (b_range : mg "range" = none)  (cl_Panes : Cls K (cv 3)) (hzPanes_add : MtX P w K mg base (cv 3) "add" 1 (FzPanes_add cv)) (hzPanes_back : MtX P w K mg base (cv 3) "back" 1 (FzPanes_back cv)) (hzPanes_place : MtX P w K mg base (cv 3) "place" 2 (FzPanes_place cv)) (hzPanes_visit : MtX P w K mg base (cv 3) "visit" 3 (FzPanes_visit cv)) (hz_law_drawn : FnAt P w K mg base "_law_drawn" 2 Fz_law_drawn) (hz_law_place : FnAt P w K mg base "_law_place" 3 Fz_law_place) (fA : Addr) (cdv : Value) (A : Around) (outer : List Env) (s : Shared) (H : Hp) (E : XK) (hr : Room 3 (A.deeper (PyProof.Rows.envOfC "_law_panes" (defScope sz_law_panes) s.heap.objs.size fA cdv))) (hx : XT (cxOf (CXr P w) P w K mg base ["_law_script", "_law_at", "_law_panes_here", "_law_names", "_law_k", "_law_name", "_law_found"] "_law_panes" (defScope sz_law_panes) fA cdv A outer s H E) (exOf E)) (hxr : XR (cxOf (CXr P w) P w K mg base ["_law_script", "_law_at", "_law_panes_here", "_law_names", "_law_k", "_law_name", "_law_found"] "_law_panes" (defScope sz_law_panes) fA cdv A outer s H E) (exOf E)) : PDs (cxOf (CXr P w) P w K mg base ["_law_script", "_law_at", "_law_panes_here", "_law_names", "_law_k", "_law_name", "_law_found"] "_law_panes" (defScope sz_law_panes) fA cdv A outer s H E) (exOf E) stz_law_panes_p1 Pz_law_panes_p1 := (pd_set 3 scz_law_panes.nd rfl (by first | exact Or.inl rfl | exact Or.inr rfl) (pd_F (pdf_lst (pda_cons pd_str (pda_cons pd_str (pda_cons pd_str pda_nil))))))
set_option maxHeartbeats 4000000 in
theorem okz_law_panes_p2 (b_enumerate : mg "enumerate" = none) (b_len : mg "len" = none) (b_range : mg "range" = none)  (cl_Panes : Cls K (cv 3)) (hzPanes_add : MtX P w K mg base (cv 3) "add" 1 (FzPanes_add cv)) (hzPanes_back : MtX P w K mg base (cv 3) "back" 1 (FzPanes_back cv)) (hzPanes_place : MtX P w K mg base (cv 3) "place" 2 (FzPanes_place cv)) (hzPanes_visit : MtX P w K mg base (cv 3) "visit" 3 (FzPanes_visit cv)) (hz_law_drawn : FnAt P w K mg base "_law_drawn" 2 Fz_law_drawn) (hz_law_place : FnAt P w K mg base "_law_place" 3 Fz_law_place) (fA : Addr) (cdv : Value) (A : Around) (outer : List Env) (s : Shared) (H : Hp) (E : XK) (hr : Room 3 (A.deeper (PyProof.Rows.envOfC "_law_panes" (defScope sz_law_panes) s.heap.objs.size fA cdv))) (hx : XT (cxOf (CXr P w) P w K mg base ["_law_script", "_law_at", "_law_panes_here", "_law_names", "_law_k", "_law_name", "_law_found"] "_law_panes" (defScope sz_law_panes) fA cdv A outer s H E) (exOf E)) (hxr : XR (cxOf (CXr P w) P w K mg base ["_law_script", "_law_at", "_law_panes_here", "_law_names", "_law_k", "_law_name", "_law_found"] "_law_panes" (defScope sz_law_panes) fA cdv A outer s H E) (exOf E)) : PDs (cxOf (CXr P w) P w K mg base ["_law_script", "_law_at", "_law_panes_here", "_law_names", "_law_k", "_law_name", "_law_found"] "_law_panes" (defScope sz_law_panes) fA cdv A outer s H E) (exOf E) stz_law_panes_p2 (Pz_law_panes_p2 cv) := (pd_for hx.own rfl (pid_enum rfl b_enumerate (pd_var 3)) (pgd_tup rfl (pgsd_cons 4 scz_law_panes.nd rfl (by first | exact Or.inl rfl | exact Or.inr rfl) (pgsd_cons 5 scz_law_panes.nd rfl (by first | exact Or.inl rfl | exact Or.inr rfl) pgsd_nil))) (pds_one (pd_expr (pd_mtX hzPanes_add hx cl_Panes hr (by decide) (pd_var 2) (pda_cons (pd_var 5) (pda_cons (pd_fn hz_law_place hr (by decide) rfl (pda_cons (pd_var 0) (pda_cons (pd_op op_addD (pd_var 1) (pd_op op_mul2D pd_int (pd_var 4))) pda_nil))) pda_nil))))))
set_option maxHeartbeats 4000000 in
theorem okz_law_panes_p3 (b_enumerate : mg "enumerate" = none) (b_len : mg "len" = none) (b_range : mg "range" = none)  (cl_Panes : Cls K (cv 3)) (hzPanes_add : MtX P w K mg base (cv 3) "add" 1 (FzPanes_add cv)) (hzPanes_back : MtX P w K mg base (cv 3) "back" 1 (FzPanes_back cv)) (hzPanes_place : MtX P w K mg base (cv 3) "place" 2 (FzPanes_place cv)) (hzPanes_visit : MtX P w K mg base (cv 3) "visit" 3 (FzPanes_visit cv)) (hz_law_drawn : FnAt P w K mg base "_law_drawn" 2 Fz_law_drawn) (hz_law_place : FnAt P w K mg base "_law_place" 3 Fz_law_place) (fA : Addr) (cdv : Value) (A : Around) (outer : List Env) (s : Shared) (H : Hp) (E : XK) (hr : Room 3 (A.deeper (PyProof.Rows.envOfC "_law_panes" (defScope sz_law_panes) s.heap.objs.size fA cdv))) (hx : XT (cxOf (CXr P w) P w K mg base ["_law_script", "_law_at", "_law_panes_here", "_law_names", "_law_k", "_law_name", "_law_found"] "_law_panes" (defScope sz_law_panes) fA cdv A outer s H E) (exOf E)) (hxr : XR (cxOf (CXr P w) P w K mg base ["_law_script", "_law_at", "_law_panes_here", "_law_names", "_law_k", "_law_name", "_law_found"] "_law_panes" (defScope sz_law_panes) fA cdv A outer s H E) (exOf E)) : PDs (cxOf (CXr P w) P w K mg base ["_law_script", "_law_at", "_law_panes_here", "_law_names", "_law_k", "_law_name", "_law_found"] "_law_panes" (defScope sz_law_panes) fA cdv A outer s H E) (exOf E) stz_law_panes_p3 (Pz_law_panes_p3 cv) := (pd_setF 6 scz_law_panes.nd rfl (by first | exact Or.inl rfl | exact Or.inr rfl) (pdf_lst (pda_cons (pd_F (pdf_lc rfl ⟨Blk.of (N := ["_law_name", "_law_panes_here"]) (caps := [2]) (nT := 1) (by show blkB (defScope sz_law_panes) _ ["_law_script", "_law_at", "_law_panes_here", "_law_names", "_law_k", "_law_name", "_law_found"] _ _ _ = true; decide +kernel), fun _ _ _ _ => (pgd_name 0 (by show (["_law_name", "_law_panes_here"] : List Str).Nodup; decide +kernel) rfl (by first | exact Or.inl rfl | exact Or.inr rfl)), fun _ _ _ _ => pts_nil, fun _ _ _ _ => (pd_mtX hzPanes_place xt_comp cl_Panes hr (by decide) (pd_var 1) (pda_cons (pd_var 0) pda_nil))⟩ (pid_seq (pd_var 3)))) pda_nil)))
set_option maxHeartbeats 4000000 in
theorem okz_law_panes_p4 (b_enumerate : mg "enumerate" = none) (b_len : mg "len" = none) (b_range : mg "range" = none)  (cl_Panes : Cls K (cv 3)) (hzPanes_add : MtX P w K mg base (cv 3) "add" 1 (FzPanes_add cv)) (hzPanes_back : MtX P w K mg base (cv 3) "back" 1 (FzPanes_back cv)) (hzPanes_place : MtX P w K mg base (cv 3) "place" 2 (FzPanes_place cv)) (hzPanes_visit : MtX P w K mg base (cv 3) "visit" 3 (FzPanes_visit cv)) (hz_law_drawn : FnAt P w K mg base "_law_drawn" 2 Fz_law_drawn) (hz_law_place : FnAt P w K mg base "_law_place" 3 Fz_law_place) (fA : Addr) (cdv : Value) (A : Around) (outer : List Env) (s : Shared) (H : Hp) (E : XK) (hr : Room 3 (A.deeper (PyProof.Rows.envOfC "_law_panes" (defScope sz_law_panes) s.heap.objs.size fA cdv))) (hx : XT (cxOf (CXr P w) P w K mg base ["_law_script", "_law_at", "_law_panes_here", "_law_names", "_law_k", "_law_name", "_law_found"] "_law_panes" (defScope sz_law_panes) fA cdv A outer s H E) (exOf E)) (hxr : XR (cxOf (CXr P w) P w K mg base ["_law_script", "_law_at", "_law_panes_here", "_law_names", "_law_k", "_law_name", "_law_found"] "_law_panes" (defScope sz_law_panes) fA cdv A outer s H E) (exOf E)) : PDs (cxOf (CXr P w) P w K mg base ["_law_script", "_law_at", "_law_panes_here", "_law_names", "_law_k", "_law_name", "_law_found"] "_law_panes" (defScope sz_law_panes) fA cdv A outer s H E) (exOf E) stz_law_panes_p4 (Pz_law_panes_p4 cv) := (pd_for hx.own rfl (pid_range1 rfl b_range (pda_cons (pd_fn hz_law_drawn hr (by decide) rfl (pda_cons (pd_var 0) (pda_cons (pd_op op_addD (pd_var 1) pd_int) (pda_cons pd_int pda_nil)))) pda_nil)) (pgd_name 4 scz_law_panes.nd rfl (by first | exact Or.inl rfl | exact Or.inr rfl)) (pds_cons (pd_set 5 scz_law_panes.nd rfl (by first | exact Or.inl rfl | exact Or.inr rfl) (pd_ix (pd_var 3) (pd_fn hz_law_drawn hr (by decide) rfl (pda_cons (pd_var 0) (pda_cons (pd_op op_addD (pd_op op_addD (pd_var 1) pd_int) (pd_op op_mul2D pd_int (pd_var 4))) (pda_cons pd_int pda_nil)))))) (pds_cons (pd_expr (pd_mtX hzPanes_visit hx cl_Panes hr (by decide) (pd_var 2) (pda_cons (pd_var 5) (pda_cons (pd_fn hz_law_place hr (by decide) rfl (pda_cons (pd_var 0) (pda_cons (pd_op op_addD (pd_op op_addD (pd_var 1) pd_int) (pd_op op_mul2D pd_int (pd_var 4))) pda_nil))) pda_nil)))) (pds_one (pd_expr (pd_append (pd_var 6) (pd_F (pdf_lc rfl ⟨Blk.of (N := ["_law_name", "_law_panes_here"]) (caps := [2]) (nT := 1) (by show blkB (defScope sz_law_panes) _ ["_law_script", "_law_at", "_law_panes_here", "_law_names", "_law_k", "_law_name", "_law_found"] _ _ _ = true; decide +kernel), fun _ _ _ _ => (pgd_name 0 (by show (["_law_name", "_law_panes_here"] : List Str).Nodup; decide +kernel) rfl (by first | exact Or.inl rfl | exact Or.inr rfl)), fun _ _ _ _ => pts_nil, fun _ _ _ _ => (pd_mtX hzPanes_place xt_comp cl_Panes hr (by decide) (pd_var 1) (pda_cons (pd_var 0) pda_nil))⟩ (pid_seq (pd_var 3))))))))))
set_option maxHeartbeats 4000000 in
theorem okz_law_panes_p5 (b_enumerate : mg "enumerate" = none) (b_len : mg "len" = none) (b_range : mg "range" = none)  (cl_Panes : Cls K (cv 3)) (hzPanes_add : MtX P w K mg base (cv 3) "add" 1 (FzPanes_add cv)) (hzPanes_back : MtX P w K mg base (cv 3) "back" 1 (FzPanes_back cv)) (hzPanes_place : MtX P w K mg base (cv 3) "place" 2 (FzPanes_place cv)) (hzPanes_visit : MtX P w K mg base (cv 3) "visit" 3 (FzPanes_visit cv)) (hz_law_drawn : FnAt P w K mg base "_law_drawn" 2 Fz_law_drawn) (hz_law_place : FnAt P w K mg base "_law_place" 3 Fz_law_place) (fA : Addr) (cdv : Value) (A : Around) (outer : List Env) (s : Shared) (H : Hp) (E : XK) (hr : Room 3 (A.deeper (PyProof.Rows.envOfC "_law_panes" (defScope sz_law_panes) s.heap.objs.size fA cdv))) (hx : XT (cxOf (CXr P w) P w K mg base ["_law_script", "_law_at", "_law_panes_here", "_law_names", "_law_k", "_law_name", "_law_found"] "_law_panes" (defScope sz_law_panes) fA cdv A outer s H E) (exOf E)) (hxr : XR (cxOf (CXr P w) P w K mg base ["_law_script", "_law_at", "_law_panes_here", "_law_names", "_law_k", "_law_name", "_law_found"] "_law_panes" (defScope sz_law_panes) fA cdv A outer s H E) (exOf E)) : PDs (cxOf (CXr P w) P w K mg base ["_law_script", "_law_at", "_law_panes_here", "_law_names", "_law_k", "_law_name", "_law_found"] "_law_panes" (defScope sz_law_panes) fA cdv A outer s H E) (exOf E) stz_law_panes_p5 (Pz_law_panes_p5 cv) := (pd_for hx.own rfl (pid_range1 rfl b_range (pda_cons (pd_fn hz_law_drawn hr (by decide) rfl (pda_cons (pd_var 0) (pda_cons (pd_op op_addD (pd_var 1) pd_int) (pda_cons (pd_callB call_lenD rfl b_len PySem.boot_len (pda_cons (pd_var 6) pda_nil)) pda_nil)))) pda_nil)) (pgd_name 4 scz_law_panes.nd rfl (by first | exact Or.inl rfl | exact Or.inr rfl)) (pds_one (pd_expr (pd_mtX0 hzPanes_back hx cl_Panes hr (by decide) (pd_var 2)))))
set_option maxHeartbeats 4000000 in
theorem okz_law_panes_p6 (b_enumerate : mg "enumerate" = none) (b_len : mg "len" = none) (b_range : mg "range" = none)  (cl_Panes : Cls K (cv 3)) (hzPanes_add : MtX P w K mg base (cv 3) "add" 1 (FzPanes_add cv)) (hzPanes_back : MtX P w K mg base (cv 3) "back" 1 (FzPanes_back cv)) (hzPanes_place : MtX P w K mg base (cv 3) "place" 2 (FzPanes_place cv)) (hzPanes_visit : MtX P w K mg base (cv 3) "visit" 3 (FzPanes_visit cv)) (hz_law_drawn : FnAt P w K mg base "_law_drawn" 2 Fz_law_drawn) (hz_law_place : FnAt P w K mg base "_law_place" 3 Fz_law_place) (fA : Addr) (cdv : Value) (A : Around) (outer : List Env) (s : Shared) (H : Hp) (E : XK) (hr : Room 3 (A.deeper (PyProof.Rows.envOfC "_law_panes" (defScope sz_law_panes) s.heap.objs.size fA cdv))) (hx : XT (cxOf (CXr P w) P w K mg base ["_law_script", "_law_at", "_law_panes_here", "_law_names", "_law_k", "_law_name", "_law_found"] "_law_panes" (defScope sz_law_panes) fA cdv A outer s H E) (exOf E)) (hxr : XR (cxOf (CXr P w) P w K mg base ["_law_script", "_law_at", "_law_panes_here", "_law_names", "_law_k", "_law_name", "_law_found"] "_law_panes" (defScope sz_law_panes) fA cdv A outer s H E) (exOf E)) : PDs (cxOf (CXr P w) P w K mg base ["_law_script", "_law_at", "_law_panes_here", "_law_names", "_law_k", "_law_name", "_law_found"] "_law_panes" (defScope sz_law_panes) fA cdv A outer s H E) (exOf E) stz_law_panes_p6 Pz_law_panes_p6 := (pd_ret (pd_var 6))
set_option maxHeartbeats 4000000 in
theorem okz_law_panes {f : Addr} {fd : FuncData} (F : Fun K "_law_panes" "_law_panes" sz_law_panes f fd) (hm : mg "_law_panes" = some (.ref f)) (hb : Binds K fd ["_law_script", "_law_at", "_law_panes_here"] []) (b_enumerate : mg "enumerate" = none) (b_len : mg "len" = none) (b_range : mg "range" = none)  (cl_Panes : Cls K (cv 3)) (hzPanes_add : MtX P w K mg base (cv 3) "add" 1 (FzPanes_add cv)) (hzPanes_back : MtX P w K mg base (cv 3) "back" 1 (FzPanes_back cv)) (hzPanes_place : MtX P w K mg base (cv 3) "place" 2 (FzPanes_place cv)) (hzPanes_visit : MtX P w K mg base (cv 3) "visit" 3 (FzPanes_visit cv)) (hz_law_drawn : FnAt P w K mg base "_law_drawn" 2 Fz_law_drawn) (hz_law_place : FnAt P w K mg base "_law_place" 3 Fz_law_place) : FnX P w K mg base "_law_panes" 4 (Fz_law_panes cv) :=
  fnXAt (k := 3) F scz_law_panes hm hb fun cdv A outer s H E hr hx hxr => (show PDS _ _ [stz_law_panes_p1, stz_law_panes_p2, stz_law_panes_p3, stz_law_panes_p4, stz_law_panes_p5, stz_law_panes_p6] _ from (pds_cons (okz_law_panes_p1 b_enumerate b_len b_range cl_Panes hzPanes_add hzPanes_back hzPanes_place hzPanes_visit hz_law_drawn hz_law_place f cdv A outer s H E hr hx hxr) (pds_cons (okz_law_panes_p2 b_enumerate b_len b_range cl_Panes hzPanes_add hzPanes_back hzPanes_place hzPanes_visit hz_law_drawn hz_law_place f cdv A outer s H E hr hx hxr) (pds_cons (okz_law_panes_p3 b_enumerate b_len b_range cl_Panes hzPanes_add hzPanes_back hzPanes_place hzPanes_visit hz_law_drawn hz_law_place f cdv A outer s H E hr hx hxr) (pds_cons (okz_law_panes_p4 b_enumerate b_len b_range cl_Panes hzPanes_add hzPanes_back hzPanes_place hzPanes_visit hz_law_drawn hz_law_place f cdv A outer s H E hr hx hxr) (pds_cons (okz_law_panes_p5 b_enumerate b_len b_range cl_Panes hzPanes_add hzPanes_back hzPanes_place hzPanes_visit hz_law_drawn hz_law_place f cdv A outer s H E hr hx hxr) (pds_one (okz_law_panes_p6 b_enumerate b_len b_range cl_Panes hzPanes_add hzPanes_back hzPanes_place hzPanes_visit hz_law_drawn hz_law_place f cdv A outer s H E hr hx hxr))))))))
set_option maxHeartbeats 4000000 in
theorem okzPanes_steps {f : Addr} {fd : FuncData} (F : Fun K "steps" "Panes.steps" szPanes_steps f fd) (hm : Meth K (cv 3) "steps" f) (hb : Binds K fd ["self"] []) (b_list : mg "list" = none)  (cl_Panes : Cls K (cv 3)) (na_Panes_row : NoAttr K (cv 3) "row")  : MtAt P w K mg base (cv 3) "steps" 1 (FzPanes_steps cv) :=
  mtAt (k := 0) F sczPanes_steps hm hb fun cdv A outer s H E hr => (pds_one (pd_ret (pd_F (pdf_callTy call_listF rfl b_list PyProof.Rows.boot_list (pda_cons (pd_fld (pd_var 0) cl_Panes na_Panes_row) pda_nil)))))
set_option maxHeartbeats 4000000 in
theorem okzPanes_done {f : Addr} {fd : FuncData} (F : Fun K "done" "Panes.done" szPanes_done f fd) (hm : Meth K (cv 3) "done" f) (hb : Binds K fd ["self"] [])   (cl_Panes : Cls K (cv 3)) (na_Panes_made : NoAttr K (cv 3) "made")  : MtAt P w K mg base (cv 3) "done" 1 (FzPanes_done cv) :=
  mtAt (k := 0) F sczPanes_done hm hb fun cdv A outer s H E hr => (pds_one (pd_ret (pd_fld (pd_var 0) cl_Panes na_Panes_made)))
set_option maxHeartbeats 4000000 in
theorem okzPanes_back_in {f : Addr} {fd : FuncData} (F : Fun K "back_in" "Panes.back_in" szPanes_back_in f fd) (hm : Meth K (cv 3) "back_in" f) (hb : Binds K fd ["self", "name"] [])   (cl_Panes : Cls K (cv 3)) (mg_NoPlace : mg "NoPlace" = some (.ref (cv 11))) (na_Panes_made : NoAttr K (cv 3) "made") (na_Panes_row : NoAttr K (cv 3) "row") (xc_NoPlace : PySem.W.excIn K (cv 11) [.type "ValueError", .type "Exception", .type "BaseException", .type "object"] "ValueError.__new__" = true) (hzPanes_back : MtX P w K mg base (cv 3) "back" 1 (FzPanes_back cv)) (hzPanes_check_name : MtX P w K mg base (cv 3) "check_name" 1 (FzPanes_check_name cv)) : MtX P w K mg base (cv 3) "back_in" 2 (FzPanes_back_in cv) :=
  mtXAt (k := 1) F sczPanes_back_in hm hb fun cdv A outer s H E hr hx hxr => (pds_cons (pd_expr (pd_mtX hzPanes_check_name hx cl_Panes hr (by decide) (pd_var 0) (pda_cons (pd_var 1) pda_nil))) (pds_cons (pd_if (pdt_cmp (op_notInD hr.units) (pd_var 1) (pd_F (pdf_lc rfl ⟨Blk.of (N := ["step"]) (caps := []) (nT := 1) (by show blkB (defScope szPanes_back_in) _ ["self", "name", "many"] _ _ _ = true; decide +kernel), fun _ _ _ _ => (pgd_name 0 (by show (["step"] : List Str).Nodup; decide +kernel) rfl (by first | exact Or.inl rfl | exact Or.inr rfl)), fun _ _ _ _ => pts_nil, fun _ _ _ _ => (pd_ix (pd_var 0) pd_int)⟩ (pid_seq (pd_F (pdf_slice sl_F (pd_fld (pd_var 0) cl_Panes na_Panes_row) pdo_none (pdo_some (pd_fld (pd_var 0) cl_Panes na_Panes_made)))))))) (pds_one (pd_raise hxr rfl rfl mg_NoPlace xc_NoPlace PySem.F.excBase_ValueError (pda_cons pd_str pda_nil))) pds_nil) (pds_cons (pd_set 2 sczPanes_back_in.nd rfl (by first | exact Or.inl rfl | exact Or.inr rfl) pd_int) (pds_cons (pd_while 100 hx.own (pdt_cmp (op_neD hr.units) (pd_mtX0 hzPanes_back hx cl_Panes hr (by decide) (pd_var 0)) (pd_var 1)) (pds_one (pd_add 2 sczPanes_back_in.nd rfl (by first | exact Or.inl rfl | exact Or.inr rfl) pd_int))) (pds_one (pd_ret (pd_var 2)))))))
set_option maxHeartbeats 4000000 in
theorem okzsteps_of_others {f : Addr} {fd : FuncData} (F : Fun K "steps_of_others" "steps_of_others" szsteps_of_others f fd) (hm : mg "steps_of_others" = some (.ref f)) (hb : Binds K fd ["steps", "name"] [])     : FnAt P w K mg base "steps_of_others" 1 Fzsteps_of_others :=
  fnAt (k := 0) F sczsteps_of_others hm hb fun cdv A outer s H E hr => (pds_one (pd_retF (pdf_lc rfl ⟨Blk.of (N := ["step", "name"]) (caps := [1]) (nT := 1) (by show blkB (defScope szsteps_of_others) _ ["steps", "name"] _ _ _ = true; decide +kernel), fun _ _ _ _ => (pgd_name 0 (by show (["step", "name"] : List Str).Nodup; decide +kernel) rfl (by first | exact Or.inl rfl | exact Or.inr rfl)), fun _ _ _ _ => pts_one (pdt_cmp (op_neD hr.units) (pd_ix (pd_var 0) pd_int) (pd_var 1)), fun _ _ _ _ => (pd_var 0)⟩ (pid_seq (pd_var 0)))))
set_option maxHeartbeats 4000000 in
theorem okzPanes_close {f : Addr} {fd : FuncData} (F : Fun K "close" "Panes.close" szPanes_close f fd) (hm : Meth K (cv 3) "close" f) (hb : Binds K fd ["self", "name"] []) (b_len : mg "len" = none)  (cl_Panes : Cls K (cv 3)) (na_Panes_made : NoAttr K (cv 3) "made") (na_Panes_row : NoAttr K (cv 3) "row") (na_Panes_shown : NoAttr K (cv 3) "shown") (hzPanes_check_name : MtX P w K mg base (cv 3) "check_name" 1 (FzPanes_check_name cv)) (hzsteps_of_others : FnAt P w K mg base "steps_of_others" 1 Fzsteps_of_others) : MtX P w K mg base (cv 3) "close" 2 (FzPanes_close cv) :=
  mtXAt (k := 1) F sczPanes_close hm hb fun cdv A outer s H E hr hx hxr => (pds_cons (pd_expr (pd_mtX hzPanes_check_name hx cl_Panes hr (by decide) (pd_var 0) (pda_cons (pd_var 1) pda_nil))) (pds_cons (pd_set 2 sczPanes_close.nd rfl (by first | exact Or.inl rfl | exact Or.inr rfl) (pd_callB call_lenD rfl b_len PySem.boot_len (pda_cons (pd_fld (pd_var 0) cl_Panes na_Panes_row) pda_nil))) (pds_cons (pd_fldS (pd_var 0) (pd_callB call_lenD rfl b_len PySem.boot_len (pda_cons (pd_fn hzsteps_of_others hr (by decide) rfl (pda_cons (pd_F (pdf_slice sl_F (pd_fld (pd_var 0) cl_Panes na_Panes_row) pdo_none (pdo_some (pd_fld (pd_var 0) cl_Panes na_Panes_made)))) (pda_cons (pd_var 1) pda_nil))) pda_nil)) cl_Panes na_Panes_made) (pds_cons (pd_fldS (pd_var 0) (pd_fn hzsteps_of_others hr (by decide) rfl (pda_cons (pd_fld (pd_var 0) cl_Panes na_Panes_row) (pda_cons (pd_var 1) pda_nil))) cl_Panes na_Panes_row) (pds_cons (pd_expr (pd_dpop (pd_fld (pd_var 0) cl_Panes na_Panes_shown) (pd_var 1))) (pds_one (pd_ret (pd_op op_subD (pd_var 2) (pd_callB call_lenD rfl b_len PySem.boot_len (pda_cons (pd_fld (pd_var 0) cl_Panes na_Panes_row) pda_nil))))))))))
set_option maxHeartbeats 4000000 in
theorem okzPanes_names {f : Addr} {fd : FuncData} (F : Fun K "names" "Panes.names" szPanes_names f fd) (hm : Meth K (cv 3) "names" f) (hb : Binds K fd ["self"] []) (b_sorted : mg "sorted" = none)  (cl_Panes : Cls K (cv 3)) (na_Panes_shown : NoAttr K (cv 3) "shown")  : MtAt P w K mg base (cv 3) "names" 1 (FzPanes_names cv) :=
  mtAt (k := 0) F sczPanes_names hm hb fun cdv A outer s H E hr => (pds_one (pd_ret (pd_F (pdf_callB (call_sortDF rfl) rfl b_sorted PyProof.Rows.boot_sorted (pda_cons (pd_fld (pd_var 0) cl_Panes na_Panes_shown) pda_nil)))))
set_option maxHeartbeats 4000000 in
theorem okzPanes_forth {f : Addr} {fd : FuncData} (F : Fun K "forth" "Panes.forth" szPanes_forth f fd) (hm : Meth K (cv 3) "forth" f) (hb : Binds K fd ["self"] []) (b_len : mg "len" = none)  (cl_Panes : Cls K (cv 3)) (mg_NoPlace : mg "NoPlace" = some (.ref (cv 11))) (na_Panes_made : NoAttr K (cv 3) "made") (na_Panes_row : NoAttr K (cv 3) "row") (na_Panes_shown : NoAttr K (cv 3) "shown") (xc_NoPlace : PySem.W.excIn K (cv 11) [.type "ValueError", .type "Exception", .type "BaseException", .type "object"] "ValueError.__new__" = true)  : MtX P w K mg base (cv 3) "forth" 1 (FzPanes_forth cv) :=
  mtXAt (k := 0) F sczPanes_forth hm hb fun cdv A outer s H E hr hx hxr => (pds_cons (pd_if (pdt_cmp (op_eqD hr.units) (pd_fld (pd_var 0) cl_Panes na_Panes_made) (pd_callB call_lenD rfl b_len PySem.boot_len (pda_cons (pd_fld (pd_var 0) cl_Panes na_Panes_row) pda_nil))) (pds_one (pd_raise hxr rfl rfl mg_NoPlace xc_NoPlace PySem.F.excBase_ValueError (pda_cons pd_str pda_nil))) pds_nil) (pds_cons (pd_set 1 sczPanes_forth.nd rfl (by first | exact Or.inl rfl | exact Or.inr rfl) (pd_ix (pd_fld (pd_var 0) cl_Panes na_Panes_row) (pd_fld (pd_var 0) cl_Panes na_Panes_made))) (pds_cons (pd_fldAdd (pd_var 0) pd_int cl_Panes na_Panes_made) (pds_cons (pd_dput hr.units (pd_fld (pd_var 0) cl_Panes na_Panes_shown) (pd_ix (pd_var 1) pd_int) (pd_ix (pd_var 1) pd_int)) (pds_one (pd_ret (pd_ix (pd_var 1) pd_int)))))))
set_option maxHeartbeats 4000000 in
theorem okzPanes_seen {f : Addr} {fd : FuncData} (F : Fun K "seen" "Panes.seen" szPanes_seen f fd) (hm : Meth K (cv 3) "seen" f) (hb : Binds K fd ["self", "name"] []) (b_len : mg "len" = none)  (cl_Panes : Cls K (cv 3)) (na_Panes_row : NoAttr K (cv 3) "row") (hzPanes_place : MtX P w K mg base (cv 3) "place" 2 (FzPanes_place cv)) : MtX P w K mg base (cv 3) "seen" 3 (FzPanes_seen cv) :=
  mtXAt (k := 2) F sczPanes_seen hm hb fun cdv A outer s H E hr hx hxr => (pds_cons (pd_set 2 sczPanes_seen.nd rfl (by first | exact Or.inl rfl | exact Or.inr rfl) (pd_mtX hzPanes_place hx cl_Panes hr (by decide) (pd_var 0) (pda_cons (pd_var 1) pda_nil))) (pds_cons (pd_setLC 3 rfl ⟨Blk.of (N := ["step", "name"]) (caps := [1]) (nT := 1) (by show blkB (defScope szPanes_seen) _ ["self", "name", "shown", "steps"] _ _ _ = true; decide +kernel), fun _ _ _ _ => (pgd_name 0 (by show (["step", "name"] : List Str).Nodup; decide +kernel) rfl (by first | exact Or.inl rfl | exact Or.inr rfl)), fun _ _ _ _ => pts_one (pdt_cmp (op_eqD hr.units) (pd_ix (pd_var 0) pd_int) (pd_var 1)), fun _ _ _ _ => (pd_var 0)⟩ (pid_seq (pd_fld (pd_var 0) cl_Panes na_Panes_row)) sczPanes_seen.nd rfl (by first | exact Or.inl rfl | exact Or.inr rfl)) (pds_cons (pd_if (pdt_cmp (op_eqD hr.units) (pd_callB call_lenD rfl b_len PySem.boot_len (pda_cons (pd_var 3) pda_nil)) pd_int) (pds_one (pd_ret (pd_F (pdf_lst (pda_cons (pd_var 2) pda_nil))))) pds_nil) (pds_one (pd_ret (pd_F (pdf_op op_catL (pd_F (pdf_lst (pda_cons (pd_ix (pd_ix (pd_var 3) pd_int) pd_int) pda_nil))) (pd_F (pdf_lc rfl ⟨Blk.of (N := ["step"]) (caps := []) (nT := 1) (by show blkB (defScope szPanes_seen) _ ["self", "name", "shown", "steps"] _ _ _ = true; decide +kernel), fun _ _ _ _ => (pgd_name 0 (by show (["step"] : List Str).Nodup; decide +kernel) rfl (by first | exact Or.inl rfl | exact Or.inr rfl)), fun _ _ _ _ => pts_nil, fun _ _ _ _ => (pd_ix (pd_var 0) pd_int)⟩ (pid_seq (pd_var 3)))))))))))
set_option maxHeartbeats 4000000 in
theorem okzlaw_p1 (b_len : mg "len" = none) (b_range : mg "range" = none)  (cl_Panes : Cls K (cv 3)) (hzPanes___init__ : MkAt P w K mg base "Panes" (cv 3) 1 (FzPanes___init__ cv)) (hzPanes_add : MtX P w K mg base (cv 3) "add" 1 (FzPanes_add cv)) (hzPanes_back : MtX P w K mg base (cv 3) "back" 1 (FzPanes_back cv)) (hzPanes_back_in : MtX P w K mg base (cv 3) "back_in" 2 (FzPanes_back_in cv)) (hzPanes_close : MtX P w K mg base (cv 3) "close" 2 (FzPanes_close cv)) (hzPanes_done : MtAt P w K mg base (cv 3) "done" 1 (FzPanes_done cv)) (hzPanes_forth : MtX P w K mg base (cv 3) "forth" 1 (FzPanes_forth cv)) (hzPanes_names : MtAt P w K mg base (cv 3) "names" 1 (FzPanes_names cv)) (hzPanes_place : MtX P w K mg base (cv 3) "place" 2 (FzPanes_place cv)) (hzPanes_seen : MtX P w K mg base (cv 3) "seen" 3 (FzPanes_seen cv)) (hzPanes_steps : MtAt P w K mg base (cv 3) "steps" 1 (FzPanes_steps cv)) (hz_law_drawn : FnAt P w K mg base "_law_drawn" 2 Fz_law_drawn) (hz_law_panes : FnX P w K mg base "_law_panes" 4 (Fz_law_panes cv)) (fA : Addr) (cdv : Value) (A : Around) (outer : List Env) (s : Shared) (H : Hp) (E : XK) (hr : Room 4 (A.deeper (PyProof.Rows.envOfC "law" (defScope szlaw) s.heap.objs.size fA cdv))) : PDs (cxOf CX0 P w K mg base ["_law_script", "_law_panes_here", "_law_found", "_law_rows", "_law_done", "_law_name", "_law_others", "_law_shown", "_law_own", "_law_copy", "_law_last", "_law_left", "_law_first", "_law_row"] "law" (defScope szlaw) fA cdv A outer s H E).nox EX0 stzlaw_p1 (Pzlaw_p1 cv) := (pd_set 1 sczlaw.nd rfl (by first | exact Or.inl rfl | exact Or.inr rfl) (pd_mk0 hzPanes___init__ hr (by decide) rfl))
set_option maxHeartbeats 4000000 in
theorem okzlaw_p2 (b_len : mg "len" = none) (b_range : mg "range" = none)  (cl_Panes : Cls K (cv 3)) (hzPanes___init__ : MkAt P w K mg base "Panes" (cv 3) 1 (FzPanes___init__ cv)) (hzPanes_add : MtX P w K mg base (cv 3) "add" 1 (FzPanes_add cv)) (hzPanes_back : MtX P w K mg base (cv 3) "back" 1 (FzPanes_back cv)) (hzPanes_back_in : MtX P w K mg base (cv 3) "back_in" 2 (FzPanes_back_in cv)) (hzPanes_close : MtX P w K mg base (cv 3) "close" 2 (FzPanes_close cv)) (hzPanes_done : MtAt P w K mg base (cv 3) "done" 1 (FzPanes_done cv)) (hzPanes_forth : MtX P w K mg base (cv 3) "forth" 1 (FzPanes_forth cv)) (hzPanes_names : MtAt P w K mg base (cv 3) "names" 1 (FzPanes_names cv)) (hzPanes_place : MtX P w K mg base (cv 3) "place" 2 (FzPanes_place cv)) (hzPanes_seen : MtX P w K mg base (cv 3) "seen" 3 (FzPanes_seen cv)) (hzPanes_steps : MtAt P w K mg base (cv 3) "steps" 1 (FzPanes_steps cv)) (hz_law_drawn : FnAt P w K mg base "_law_drawn" 2 Fz_law_drawn) (hz_law_panes : FnX P w K mg base "_law_panes" 4 (Fz_law_panes cv)) (fA : Addr) (cdv : Value) (A : Around) (outer : List Env) (s : Shared) (H : Hp) (E : XK) (hr : Room 4 (A.deeper (PyProof.Rows.envOfC "law" (defScope szlaw) s.heap.objs.size fA cdv))) : PDs (cxOf CX0 P w K mg base ["_law_script", "_law_panes_here", "_law_found", "_law_rows", "_law_done", "_law_name", "_law_others", "_law_shown", "_law_own", "_law_copy", "_law_last", "_law_left", "_law_first", "_law_row"] "law" (defScope szlaw) fA cdv A outer s H E).nox EX0 stzlaw_p2 (Pzlaw_p2 cv) := (pd_set 2 sczlaw.nd rfl (by first | exact Or.inl rfl | exact Or.inr rfl) (pd_fnX hz_law_panes xt_nox hr (by decide) rfl (pda_cons (pd_var 0) (pda_cons pd_int (pda_cons (pd_var 1) pda_nil)))))
set_option maxHeartbeats 4000000 in
theorem okzlaw_p3 (b_len : mg "len" = none) (b_range : mg "range" = none)  (cl_Panes : Cls K (cv 3)) (hzPanes___init__ : MkAt P w K mg base "Panes" (cv 3) 1 (FzPanes___init__ cv)) (hzPanes_add : MtX P w K mg base (cv 3) "add" 1 (FzPanes_add cv)) (hzPanes_back : MtX P w K mg base (cv 3) "back" 1 (FzPanes_back cv)) (hzPanes_back_in : MtX P w K mg base (cv 3) "back_in" 2 (FzPanes_back_in cv)) (hzPanes_close : MtX P w K mg base (cv 3) "close" 2 (FzPanes_close cv)) (hzPanes_done : MtAt P w K mg base (cv 3) "done" 1 (FzPanes_done cv)) (hzPanes_forth : MtX P w K mg base (cv 3) "forth" 1 (FzPanes_forth cv)) (hzPanes_names : MtAt P w K mg base (cv 3) "names" 1 (FzPanes_names cv)) (hzPanes_place : MtX P w K mg base (cv 3) "place" 2 (FzPanes_place cv)) (hzPanes_seen : MtX P w K mg base (cv 3) "seen" 3 (FzPanes_seen cv)) (hzPanes_steps : MtAt P w K mg base (cv 3) "steps" 1 (FzPanes_steps cv)) (hz_law_drawn : FnAt P w K mg base "_law_drawn" 2 Fz_law_drawn) (hz_law_panes : FnX P w K mg base "_law_panes" 4 (Fz_law_panes cv)) (fA : Addr) (cdv : Value) (A : Around) (outer : List Env) (s : Shared) (H : Hp) (E : XK) (hr : Room 4 (A.deeper (PyProof.Rows.envOfC "law" (defScope szlaw) s.heap.objs.size fA cdv))) : PDs (cxOf CX0 P w K mg base ["_law_script", "_law_panes_here", "_law_found", "_law_rows", "_law_done", "_law_name", "_law_others", "_law_shown", "_law_own", "_law_copy", "_law_last", "_law_left", "_law_first", "_law_row"] "law" (defScope szlaw) fA cdv A outer s H E).nox EX0 stzlaw_p3 (Pzlaw_p3 cv) := (pd_set 3 sczlaw.nd rfl (by first | exact Or.inl rfl | exact Or.inr rfl) (pd_mt0 hzPanes_steps cl_Panes hr (by decide) (pd_var 1)))
set_option maxHeartbeats 4000000 in
theorem okzlaw_p4 (b_len : mg "len" = none) (b_range : mg "range" = none)  (cl_Panes : Cls K (cv 3)) (hzPanes___init__ : MkAt P w K mg base "Panes" (cv 3) 1 (FzPanes___init__ cv)) (hzPanes_add : MtX P w K mg base (cv 3) "add" 1 (FzPanes_add cv)) (hzPanes_back : MtX P w K mg base (cv 3) "back" 1 (FzPanes_back cv)) (hzPanes_back_in : MtX P w K mg base (cv 3) "back_in" 2 (FzPanes_back_in cv)) (hzPanes_close : MtX P w K mg base (cv 3) "close" 2 (FzPanes_close cv)) (hzPanes_done : MtAt P w K mg base (cv 3) "done" 1 (FzPanes_done cv)) (hzPanes_forth : MtX P w K mg base (cv 3) "forth" 1 (FzPanes_forth cv)) (hzPanes_names : MtAt P w K mg base (cv 3) "names" 1 (FzPanes_names cv)) (hzPanes_place : MtX P w K mg base (cv 3) "place" 2 (FzPanes_place cv)) (hzPanes_seen : MtX P w K mg base (cv 3) "seen" 3 (FzPanes_seen cv)) (hzPanes_steps : MtAt P w K mg base (cv 3) "steps" 1 (FzPanes_steps cv)) (hz_law_drawn : FnAt P w K mg base "_law_drawn" 2 Fz_law_drawn) (hz_law_panes : FnX P w K mg base "_law_panes" 4 (Fz_law_panes cv)) (fA : Addr) (cdv : Value) (A : Around) (outer : List Env) (s : Shared) (H : Hp) (E : XK) (hr : Room 4 (A.deeper (PyProof.Rows.envOfC "law" (defScope szlaw) s.heap.objs.size fA cdv))) : PDs (cxOf CX0 P w K mg base ["_law_script", "_law_panes_here", "_law_found", "_law_rows", "_law_done", "_law_name", "_law_others", "_law_shown", "_law_own", "_law_copy", "_law_last", "_law_left", "_law_first", "_law_row"] "law" (defScope szlaw) fA cdv A outer s H E).nox EX0 stzlaw_p4 (Pzlaw_p4 cv) := (pd_set 4 sczlaw.nd rfl (by first | exact Or.inl rfl | exact Or.inr rfl) (pd_mt0 hzPanes_done cl_Panes hr (by decide) (pd_var 1)))
set_option maxHeartbeats 4000000 in
theorem okzlaw_p5 (b_len : mg "len" = none) (b_range : mg "range" = none)  (cl_Panes : Cls K (cv 3)) (hzPanes___init__ : MkAt P w K mg base "Panes" (cv 3) 1 (FzPanes___init__ cv)) (hzPanes_add : MtX P w K mg base (cv 3) "add" 1 (FzPanes_add cv)) (hzPanes_back : MtX P w K mg base (cv 3) "back" 1 (FzPanes_back cv)) (hzPanes_back_in : MtX P w K mg base (cv 3) "back_in" 2 (FzPanes_back_in cv)) (hzPanes_close : MtX P w K mg base (cv 3) "close" 2 (FzPanes_close cv)) (hzPanes_done : MtAt P w K mg base (cv 3) "done" 1 (FzPanes_done cv)) (hzPanes_forth : MtX P w K mg base (cv 3) "forth" 1 (FzPanes_forth cv)) (hzPanes_names : MtAt P w K mg base (cv 3) "names" 1 (FzPanes_names cv)) (hzPanes_place : MtX P w K mg base (cv 3) "place" 2 (FzPanes_place cv)) (hzPanes_seen : MtX P w K mg base (cv 3) "seen" 3 (FzPanes_seen cv)) (hzPanes_steps : MtAt P w K mg base (cv 3) "steps" 1 (FzPanes_steps cv)) (hz_law_drawn : FnAt P w K mg base "_law_drawn" 2 Fz_law_drawn) (hz_law_panes : FnX P w K mg base "_law_panes" 4 (Fz_law_panes cv)) (fA : Addr) (cdv : Value) (A : Around) (outer : List Env) (s : Shared) (H : Hp) (E : XK) (hr : Room 4 (A.deeper (PyProof.Rows.envOfC "law" (defScope szlaw) s.heap.objs.size fA cdv))) : PDs (cxOf CX0 P w K mg base ["_law_script", "_law_panes_here", "_law_found", "_law_rows", "_law_done", "_law_name", "_law_others", "_law_shown", "_law_own", "_law_copy", "_law_last", "_law_left", "_law_first", "_law_row"] "law" (defScope szlaw) fA cdv A outer s H E).nox EX0 stzlaw_p5 Pzlaw_p5 := (pd_set 5 sczlaw.nd rfl (by first | exact Or.inl rfl | exact Or.inr rfl) (pd_ix (pd_F (pdf_lst (pda_cons pd_str (pda_cons pd_str (pda_cons pd_str pda_nil))))) (pd_fn hz_law_drawn hr (by decide) rfl (pda_cons (pd_var 0) (pda_cons pd_int (pda_cons pd_int pda_nil))))))
set_option maxHeartbeats 4000000 in
theorem okzlaw_p6 (b_len : mg "len" = none) (b_range : mg "range" = none)  (cl_Panes : Cls K (cv 3)) (hzPanes___init__ : MkAt P w K mg base "Panes" (cv 3) 1 (FzPanes___init__ cv)) (hzPanes_add : MtX P w K mg base (cv 3) "add" 1 (FzPanes_add cv)) (hzPanes_back : MtX P w K mg base (cv 3) "back" 1 (FzPanes_back cv)) (hzPanes_back_in : MtX P w K mg base (cv 3) "back_in" 2 (FzPanes_back_in cv)) (hzPanes_close : MtX P w K mg base (cv 3) "close" 2 (FzPanes_close cv)) (hzPanes_done : MtAt P w K mg base (cv 3) "done" 1 (FzPanes_done cv)) (hzPanes_forth : MtX P w K mg base (cv 3) "forth" 1 (FzPanes_forth cv)) (hzPanes_names : MtAt P w K mg base (cv 3) "names" 1 (FzPanes_names cv)) (hzPanes_place : MtX P w K mg base (cv 3) "place" 2 (FzPanes_place cv)) (hzPanes_seen : MtX P w K mg base (cv 3) "seen" 3 (FzPanes_seen cv)) (hzPanes_steps : MtAt P w K mg base (cv 3) "steps" 1 (FzPanes_steps cv)) (hz_law_drawn : FnAt P w K mg base "_law_drawn" 2 Fz_law_drawn) (hz_law_panes : FnX P w K mg base "_law_panes" 4 (Fz_law_panes cv)) (fA : Addr) (cdv : Value) (A : Around) (outer : List Env) (s : Shared) (H : Hp) (E : XK) (hr : Room 4 (A.deeper (PyProof.Rows.envOfC "law" (defScope szlaw) s.heap.objs.size fA cdv))) : PDs (cxOf CX0 P w K mg base ["_law_script", "_law_panes_here", "_law_found", "_law_rows", "_law_done", "_law_name", "_law_others", "_law_shown", "_law_own", "_law_copy", "_law_last", "_law_left", "_law_first", "_law_row"] "law" (defScope szlaw) fA cdv A outer s H E).nox EX0 stzlaw_p6 Pzlaw_p6 := (pd_setLC 6 rfl ⟨Blk.of (N := ["_law_one", "_law_name"]) (caps := [5]) (nT := 1) (by show blkB (defScope szlaw) _ ["_law_script", "_law_panes_here", "_law_found", "_law_rows", "_law_done", "_law_name", "_law_others", "_law_shown", "_law_own", "_law_copy", "_law_last", "_law_left", "_law_first", "_law_row"] _ _ _ = true; decide +kernel), fun _ _ _ _ => (pgd_name 0 (by show (["_law_one", "_law_name"] : List Str).Nodup; decide +kernel) rfl (by first | exact Or.inl rfl | exact Or.inr rfl)), fun _ _ _ _ => pts_one (pdt_cmp (op_neD hr.units) (pd_var 0) (pd_var 1)), fun _ _ _ _ => (pd_var 0)⟩ (pid_seq (pd_F (pdf_lst (pda_cons pd_str (pda_cons pd_str (pda_cons pd_str pda_nil)))))) sczlaw.nd rfl (by first | exact Or.inl rfl | exact Or.inr rfl))
set_option maxHeartbeats 4000000 in
theorem okzlaw_p7 (b_len : mg "len" = none) (b_range : mg "range" = none)  (cl_Panes : Cls K (cv 3)) (hzPanes___init__ : MkAt P w K mg base "Panes" (cv 3) 1 (FzPanes___init__ cv)) (hzPanes_add : MtX P w K mg base (cv 3) "add" 1 (FzPanes_add cv)) (hzPanes_back : MtX P w K mg base (cv 3) "back" 1 (FzPanes_back cv)) (hzPanes_back_in : MtX P w K mg base (cv 3) "back_in" 2 (FzPanes_back_in cv)) (hzPanes_close : MtX P w K mg base (cv 3) "close" 2 (FzPanes_close cv)) (hzPanes_done : MtAt P w K mg base (cv 3) "done" 1 (FzPanes_done cv)) (hzPanes_forth : MtX P w K mg base (cv 3) "forth" 1 (FzPanes_forth cv)) (hzPanes_names : MtAt P w K mg base (cv 3) "names" 1 (FzPanes_names cv)) (hzPanes_place : MtX P w K mg base (cv 3) "place" 2 (FzPanes_place cv)) (hzPanes_seen : MtX P w K mg base (cv 3) "seen" 3 (FzPanes_seen cv)) (hzPanes_steps : MtAt P w K mg base (cv 3) "steps" 1 (FzPanes_steps cv)) (hz_law_drawn : FnAt P w K mg base "_law_drawn" 2 Fz_law_drawn) (hz_law_panes : FnX P w K mg base "_law_panes" 4 (Fz_law_panes cv)) (fA : Addr) (cdv : Value) (A : Around) (outer : List Env) (s : Shared) (H : Hp) (E : XK) (hr : Room 4 (A.deeper (PyProof.Rows.envOfC "law" (defScope szlaw) s.heap.objs.size fA cdv))) : PDs (cxOf CX0 P w K mg base ["_law_script", "_law_panes_here", "_law_found", "_law_rows", "_law_done", "_law_name", "_law_others", "_law_shown", "_law_own", "_law_copy", "_law_last", "_law_left", "_law_first", "_law_row"] "law" (defScope szlaw) fA cdv A outer s H E).nox EX0 stzlaw_p7 (Pzlaw_p7 cv) := (pd_setLC 7 rfl ⟨Blk.of (N := ["_law_one", "_law_panes_here"]) (caps := [1]) (nT := 1) (by show blkB (defScope szlaw) _ ["_law_script", "_law_panes_here", "_law_found", "_law_rows", "_law_done", "_law_name", "_law_others", "_law_shown", "_law_own", "_law_copy", "_law_last", "_law_left", "_law_first", "_law_row"] _ _ _ = true; decide +kernel), fun _ _ _ _ => (pgd_name 0 (by show (["_law_one", "_law_panes_here"] : List Str).Nodup; decide +kernel) rfl (by first | exact Or.inl rfl | exact Or.inr rfl)), fun _ _ _ _ => pts_nil, fun _ _ _ _ => (pd_mtX hzPanes_place xt_comp cl_Panes hr (by decide) (pd_var 1) (pda_cons (pd_var 0) pda_nil))⟩ (pid_seq (pd_var 6)) sczlaw.nd rfl (by first | exact Or.inl rfl | exact Or.inr rfl))
set_option maxHeartbeats 4000000 in
theorem okzlaw_p8 (b_len : mg "len" = none) (b_range : mg "range" = none)  (cl_Panes : Cls K (cv 3)) (hzPanes___init__ : MkAt P w K mg base "Panes" (cv 3) 1 (FzPanes___init__ cv)) (hzPanes_add : MtX P w K mg base (cv 3) "add" 1 (FzPanes_add cv)) (hzPanes_back : MtX P w K mg base (cv 3) "back" 1 (FzPanes_back cv)) (hzPanes_back_in : MtX P w K mg base (cv 3) "back_in" 2 (FzPanes_back_in cv)) (hzPanes_close : MtX P w K mg base (cv 3) "close" 2 (FzPanes_close cv)) (hzPanes_done : MtAt P w K mg base (cv 3) "done" 1 (FzPanes_done cv)) (hzPanes_forth : MtX P w K mg base (cv 3) "forth" 1 (FzPanes_forth cv)) (hzPanes_names : MtAt P w K mg base (cv 3) "names" 1 (FzPanes_names cv)) (hzPanes_place : MtX P w K mg base (cv 3) "place" 2 (FzPanes_place cv)) (hzPanes_seen : MtX P w K mg base (cv 3) "seen" 3 (FzPanes_seen cv)) (hzPanes_steps : MtAt P w K mg base (cv 3) "steps" 1 (FzPanes_steps cv)) (hz_law_drawn : FnAt P w K mg base "_law_drawn" 2 Fz_law_drawn) (hz_law_panes : FnX P w K mg base "_law_panes" 4 (Fz_law_panes cv)) (fA : Addr) (cdv : Value) (A : Around) (outer : List Env) (s : Shared) (H : Hp) (E : XK) (hr : Room 4 (A.deeper (PyProof.Rows.envOfC "law" (defScope szlaw) s.heap.objs.size fA cdv))) : PDs (cxOf CX0 P w K mg base ["_law_script", "_law_panes_here", "_law_found", "_law_rows", "_law_done", "_law_name", "_law_others", "_law_shown", "_law_own", "_law_copy", "_law_last", "_law_left", "_law_first", "_law_row"] "law" (defScope szlaw) fA cdv A outer s H E).nox EX0 stzlaw_p8 Pzlaw_p8 := (pd_setLC 8 rfl ⟨Blk.of (N := ["_law_row", "_law_name"]) (caps := [5]) (nT := 1) (by show blkB (defScope szlaw) _ ["_law_script", "_law_panes_here", "_law_found", "_law_rows", "_law_done", "_law_name", "_law_others", "_law_shown", "_law_own", "_law_copy", "_law_last", "_law_left", "_law_first", "_law_row"] _ _ _ = true; decide +kernel), fun _ _ _ _ => (pgd_name 0 (by show (["_law_row", "_law_name"] : List Str).Nodup; decide +kernel) rfl (by first | exact Or.inl rfl | exact Or.inr rfl)), fun _ _ _ _ => pts_one (pdt_cmp (op_eqD hr.units) (pd_ix (pd_var 0) pd_int) (pd_var 1)), fun _ _ _ _ => (pd_var 0)⟩ (pid_seq (pd_F (pdf_slice sl_F (pd_var 3) pdo_none (pdo_some (pd_var 4))))) sczlaw.nd rfl (by first | exact Or.inl rfl | exact Or.inr rfl))
set_option maxHeartbeats 4000000 in
theorem okzlaw_p10 (b_len : mg "len" = none) (b_range : mg "range" = none)  (cl_Panes : Cls K (cv 3)) (hzPanes___init__ : MkAt P w K mg base "Panes" (cv 3) 1 (FzPanes___init__ cv)) (hzPanes_add : MtX P w K mg base (cv 3) "add" 1 (FzPanes_add cv)) (hzPanes_back : MtX P w K mg base (cv 3) "back" 1 (FzPanes_back cv)) (hzPanes_back_in : MtX P w K mg base (cv 3) "back_in" 2 (FzPanes_back_in cv)) (hzPanes_close : MtX P w K mg base (cv 3) "close" 2 (FzPanes_close cv)) (hzPanes_done : MtAt P w K mg base (cv 3) "done" 1 (FzPanes_done cv)) (hzPanes_forth : MtX P w K mg base (cv 3) "forth" 1 (FzPanes_forth cv)) (hzPanes_names : MtAt P w K mg base (cv 3) "names" 1 (FzPanes_names cv)) (hzPanes_place : MtX P w K mg base (cv 3) "place" 2 (FzPanes_place cv)) (hzPanes_seen : MtX P w K mg base (cv 3) "seen" 3 (FzPanes_seen cv)) (hzPanes_steps : MtAt P w K mg base (cv 3) "steps" 1 (FzPanes_steps cv)) (hz_law_drawn : FnAt P w K mg base "_law_drawn" 2 Fz_law_drawn) (hz_law_panes : FnX P w K mg base "_law_panes" 4 (Fz_law_panes cv)) (fA : Addr) (cdv : Value) (A : Around) (outer : List Env) (s : Shared) (H : Hp) (E : XK) (hr : Room 4 (A.deeper (PyProof.Rows.envOfC "law" (defScope szlaw) s.heap.objs.size fA cdv))) : PDs (cxOf CX0 P w K mg base ["_law_script", "_law_panes_here", "_law_found", "_law_rows", "_law_done", "_law_name", "_law_others", "_law_shown", "_law_own", "_law_copy", "_law_last", "_law_left", "_law_first", "_law_row"] "law" (defScope szlaw) fA cdv A outer s H E).nox EX0 stzlaw_p10 (Pzlaw_p10 cv) := (pd_set 9 sczlaw.nd rfl (by first | exact Or.inl rfl | exact Or.inr rfl) (pd_mk0 hzPanes___init__ hr (by decide) rfl))
set_option maxHeartbeats 4000000 in
theorem okzlaw_p11 (b_len : mg "len" = none) (b_range : mg "range" = none)  (cl_Panes : Cls K (cv 3)) (hzPanes___init__ : MkAt P w K mg base "Panes" (cv 3) 1 (FzPanes___init__ cv)) (hzPanes_add : MtX P w K mg base (cv 3) "add" 1 (FzPanes_add cv)) (hzPanes_back : MtX P w K mg base (cv 3) "back" 1 (FzPanes_back cv)) (hzPanes_back_in : MtX P w K mg base (cv 3) "back_in" 2 (FzPanes_back_in cv)) (hzPanes_close : MtX P w K mg base (cv 3) "close" 2 (FzPanes_close cv)) (hzPanes_done : MtAt P w K mg base (cv 3) "done" 1 (FzPanes_done cv)) (hzPanes_forth : MtX P w K mg base (cv 3) "forth" 1 (FzPanes_forth cv)) (hzPanes_names : MtAt P w K mg base (cv 3) "names" 1 (FzPanes_names cv)) (hzPanes_place : MtX P w K mg base (cv 3) "place" 2 (FzPanes_place cv)) (hzPanes_seen : MtX P w K mg base (cv 3) "seen" 3 (FzPanes_seen cv)) (hzPanes_steps : MtAt P w K mg base (cv 3) "steps" 1 (FzPanes_steps cv)) (hz_law_drawn : FnAt P w K mg base "_law_drawn" 2 Fz_law_drawn) (hz_law_panes : FnX P w K mg base "_law_panes" 4 (Fz_law_panes cv)) (fA : Addr) (cdv : Value) (A : Around) (outer : List Env) (s : Shared) (H : Hp) (E : XK) (hr : Room 4 (A.deeper (PyProof.Rows.envOfC "law" (defScope szlaw) s.heap.objs.size fA cdv))) : PDs (cxOf CX0 P w K mg base ["_law_script", "_law_panes_here", "_law_found", "_law_rows", "_law_done", "_law_name", "_law_others", "_law_shown", "_law_own", "_law_copy", "_law_last", "_law_left", "_law_first", "_law_row"] "law" (defScope szlaw) fA cdv A outer s H E).nox EX0 stzlaw_p11 (Pzlaw_p11 cv) := (pd_expr (pd_fnX hz_law_panes xt_nox hr (by decide) rfl (pda_cons (pd_var 0) (pda_cons pd_int (pda_cons (pd_var 9) pda_nil)))))
set_option maxHeartbeats 4000000 in
theorem okzlaw_p12 (b_len : mg "len" = none) (b_range : mg "range" = none)  (cl_Panes : Cls K (cv 3)) (hzPanes___init__ : MkAt P w K mg base "Panes" (cv 3) 1 (FzPanes___init__ cv)) (hzPanes_add : MtX P w K mg base (cv 3) "add" 1 (FzPanes_add cv)) (hzPanes_back : MtX P w K mg base (cv 3) "back" 1 (FzPanes_back cv)) (hzPanes_back_in : MtX P w K mg base (cv 3) "back_in" 2 (FzPanes_back_in cv)) (hzPanes_close : MtX P w K mg base (cv 3) "close" 2 (FzPanes_close cv)) (hzPanes_done : MtAt P w K mg base (cv 3) "done" 1 (FzPanes_done cv)) (hzPanes_forth : MtX P w K mg base (cv 3) "forth" 1 (FzPanes_forth cv)) (hzPanes_names : MtAt P w K mg base (cv 3) "names" 1 (FzPanes_names cv)) (hzPanes_place : MtX P w K mg base (cv 3) "place" 2 (FzPanes_place cv)) (hzPanes_seen : MtX P w K mg base (cv 3) "seen" 3 (FzPanes_seen cv)) (hzPanes_steps : MtAt P w K mg base (cv 3) "steps" 1 (FzPanes_steps cv)) (hz_law_drawn : FnAt P w K mg base "_law_drawn" 2 Fz_law_drawn) (hz_law_panes : FnX P w K mg base "_law_panes" 4 (Fz_law_panes cv)) (fA : Addr) (cdv : Value) (A : Around) (outer : List Env) (s : Shared) (H : Hp) (E : XK) (hr : Room 4 (A.deeper (PyProof.Rows.envOfC "law" (defScope szlaw) s.heap.objs.size fA cdv))) : PDs (cxOf CX0 P w K mg base ["_law_script", "_law_panes_here", "_law_found", "_law_rows", "_law_done", "_law_name", "_law_others", "_law_shown", "_law_own", "_law_copy", "_law_last", "_law_left", "_law_first", "_law_row"] "law" (defScope szlaw) fA cdv A outer s H E).nox EX0 stzlaw_p12 Pzlaw_p12 := (pd_set 10 sczlaw.nd rfl (by first | exact Or.inl rfl | exact Or.inr rfl) (pd_ix (pd_F (pdf_lc rfl ⟨Blk.of (N := ["_law_at", "_law_name", "_law_rows"]) (caps := [5, 3]) (nT := 1) (by show blkB (defScope szlaw) _ ["_law_script", "_law_panes_here", "_law_found", "_law_rows", "_law_done", "_law_name", "_law_others", "_law_shown", "_law_own", "_law_copy", "_law_last", "_law_left", "_law_first", "_law_row"] _ _ _ = true; decide +kernel), fun _ _ _ _ => (pgd_name 0 (by show (["_law_at", "_law_name", "_law_rows"] : List Str).Nodup; decide +kernel) rfl (by first | exact Or.inl rfl | exact Or.inr rfl)), fun _ _ _ _ => pts_one (pdt_cmp (op_eqD hr.units) (pd_ix (pd_ix (pd_var 2) (pd_var 0)) pd_int) (pd_var 1)), fun _ _ _ _ => (pd_var 0)⟩ (pid_range1 rfl b_range (pda_cons (pd_var 4) pda_nil)))) (pd_neg pd_int)))
set_option maxHeartbeats 4000000 in
theorem okzlaw_p13 (b_len : mg "len" = none) (b_range : mg "range" = none)  (cl_Panes : Cls K (cv 3)) (hzPanes___init__ : MkAt P w K mg base "Panes" (cv 3) 1 (FzPanes___init__ cv)) (hzPanes_add : MtX P w K mg base (cv 3) "add" 1 (FzPanes_add cv)) (hzPanes_back : MtX P w K mg base (cv 3) "back" 1 (FzPanes_back cv)) (hzPanes_back_in : MtX P w K mg base (cv 3) "back_in" 2 (FzPanes_back_in cv)) (hzPanes_close : MtX P w K mg base (cv 3) "close" 2 (FzPanes_close cv)) (hzPanes_done : MtAt P w K mg base (cv 3) "done" 1 (FzPanes_done cv)) (hzPanes_forth : MtX P w K mg base (cv 3) "forth" 1 (FzPanes_forth cv)) (hzPanes_names : MtAt P w K mg base (cv 3) "names" 1 (FzPanes_names cv)) (hzPanes_place : MtX P w K mg base (cv 3) "place" 2 (FzPanes_place cv)) (hzPanes_seen : MtX P w K mg base (cv 3) "seen" 3 (FzPanes_seen cv)) (hzPanes_steps : MtAt P w K mg base (cv 3) "steps" 1 (FzPanes_steps cv)) (hz_law_drawn : FnAt P w K mg base "_law_drawn" 2 Fz_law_drawn) (hz_law_panes : FnX P w K mg base "_law_panes" 4 (Fz_law_panes cv)) (fA : Addr) (cdv : Value) (A : Around) (outer : List Env) (s : Shared) (H : Hp) (E : XK) (hr : Room 4 (A.deeper (PyProof.Rows.envOfC "law" (defScope szlaw) s.heap.objs.size fA cdv))) : PDs (cxOf CX0 P w K mg base ["_law_script", "_law_panes_here", "_law_found", "_law_rows", "_law_done", "_law_name", "_law_others", "_law_shown", "_law_own", "_law_copy", "_law_last", "_law_left", "_law_first", "_law_row"] "law" (defScope szlaw) fA cdv A outer s H E).nox EX0 stzlaw_p13 (Pzlaw_p13 cv) := (pd_if (PDW.pt (pdw_or (pdt_cmp (op_neD hr.units) (pd_mtX hzPanes_back_in xt_nox cl_Panes hr (by decide) (pd_var 9) (pda_cons (pd_var 5) pda_nil)) (pd_op op_subD (pd_var 4) (pd_var 10))) (pdw_or (pdt_cmp (op_neD hr.units) (pd_mt0 hzPanes_done cl_Panes hr (by decide) (pd_var 9)) (pd_var 10)) (pdw_or1 (pdt_cmp (op_neD hr.units) (pd_mtX hzPanes_place xt_nox cl_Panes hr (by decide) (pd_var 9) (pda_cons (pd_var 5) pda_nil)) (pd_ix (pd_ix (pd_var 8) (pd_neg pd_int)) pd_int)))))) (pds_one (pd_ret pd_bl)) pds_nil)
set_option maxHeartbeats 4000000 in
theorem okzlaw_p14 (b_len : mg "len" = none) (b_range : mg "range" = none)  (cl_Panes : Cls K (cv 3)) (hzPanes___init__ : MkAt P w K mg base "Panes" (cv 3) 1 (FzPanes___init__ cv)) (hzPanes_add : MtX P w K mg base (cv 3) "add" 1 (FzPanes_add cv)) (hzPanes_back : MtX P w K mg base (cv 3) "back" 1 (FzPanes_back cv)) (hzPanes_back_in : MtX P w K mg base (cv 3) "back_in" 2 (FzPanes_back_in cv)) (hzPanes_close : MtX P w K mg base (cv 3) "close" 2 (FzPanes_close cv)) (hzPanes_done : MtAt P w K mg base (cv 3) "done" 1 (FzPanes_done cv)) (hzPanes_forth : MtX P w K mg base (cv 3) "forth" 1 (FzPanes_forth cv)) (hzPanes_names : MtAt P w K mg base (cv 3) "names" 1 (FzPanes_names cv)) (hzPanes_place : MtX P w K mg base (cv 3) "place" 2 (FzPanes_place cv)) (hzPanes_seen : MtX P w K mg base (cv 3) "seen" 3 (FzPanes_seen cv)) (hzPanes_steps : MtAt P w K mg base (cv 3) "steps" 1 (FzPanes_steps cv)) (hz_law_drawn : FnAt P w K mg base "_law_drawn" 2 Fz_law_drawn) (hz_law_panes : FnX P w K mg base "_law_panes" 4 (Fz_law_panes cv)) (fA : Addr) (cdv : Value) (A : Around) (outer : List Env) (s : Shared) (H : Hp) (E : XK) (hr : Room 4 (A.deeper (PyProof.Rows.envOfC "law" (defScope szlaw) s.heap.objs.size fA cdv))) : PDs (cxOf CX0 P w K mg base ["_law_script", "_law_panes_here", "_law_found", "_law_rows", "_law_done", "_law_name", "_law_others", "_law_shown", "_law_own", "_law_copy", "_law_last", "_law_left", "_law_first", "_law_row"] "law" (defScope szlaw) fA cdv A outer s H E).nox EX0 stzlaw_p14 (Pzlaw_p14 cv) := (pd_if (pdt_cmp (op_neD hr.units) (pd_F (pdf_lc rfl ⟨Blk.of (N := ["_law_one", "_law_copy"]) (caps := [9]) (nT := 1) (by show blkB (defScope szlaw) _ ["_law_script", "_law_panes_here", "_law_found", "_law_rows", "_law_done", "_law_name", "_law_others", "_law_shown", "_law_own", "_law_copy", "_law_last", "_law_left", "_law_first", "_law_row"] _ _ _ = true; decide +kernel), fun _ _ _ _ => (pgd_name 0 (by show (["_law_one", "_law_copy"] : List Str).Nodup; decide +kernel) rfl (by first | exact Or.inl rfl | exact Or.inr rfl)), fun _ _ _ _ => pts_nil, fun _ _ _ _ => (pd_mtX hzPanes_place xt_comp cl_Panes hr (by decide) (pd_var 1) (pda_cons (pd_var 0) pda_nil))⟩ (pid_seq (pd_F (pdf_lst (pda_cons pd_str (pda_cons pd_str (pda_cons pd_str pda_nil)))))))) (pd_ix (pd_var 2) (pd_var 10))) (pds_one (pd_ret pd_bl)) pds_nil)
set_option maxHeartbeats 4000000 in
theorem okzlaw_p9 (b_len : mg "len" = none) (b_range : mg "range" = none)  (cl_Panes : Cls K (cv 3)) (hzPanes___init__ : MkAt P w K mg base "Panes" (cv 3) 1 (FzPanes___init__ cv)) (hzPanes_add : MtX P w K mg base (cv 3) "add" 1 (FzPanes_add cv)) (hzPanes_back : MtX P w K mg base (cv 3) "back" 1 (FzPanes_back cv)) (hzPanes_back_in : MtX P w K mg base (cv 3) "back_in" 2 (FzPanes_back_in cv)) (hzPanes_close : MtX P w K mg base (cv 3) "close" 2 (FzPanes_close cv)) (hzPanes_done : MtAt P w K mg base (cv 3) "done" 1 (FzPanes_done cv)) (hzPanes_forth : MtX P w K mg base (cv 3) "forth" 1 (FzPanes_forth cv)) (hzPanes_names : MtAt P w K mg base (cv 3) "names" 1 (FzPanes_names cv)) (hzPanes_place : MtX P w K mg base (cv 3) "place" 2 (FzPanes_place cv)) (hzPanes_seen : MtX P w K mg base (cv 3) "seen" 3 (FzPanes_seen cv)) (hzPanes_steps : MtAt P w K mg base (cv 3) "steps" 1 (FzPanes_steps cv)) (hz_law_drawn : FnAt P w K mg base "_law_drawn" 2 Fz_law_drawn) (hz_law_panes : FnX P w K mg base "_law_panes" 4 (Fz_law_panes cv)) (fA : Addr) (cdv : Value) (A : Around) (outer : List Env) (s : Shared) (H : Hp) (E : XK) (hr : Room 4 (A.deeper (PyProof.Rows.envOfC "law" (defScope szlaw) s.heap.objs.size fA cdv))) : PDs (cxOf CX0 P w K mg base ["_law_script", "_law_panes_here", "_law_found", "_law_rows", "_law_done", "_law_name", "_law_others", "_law_shown", "_law_own", "_law_copy", "_law_last", "_law_left", "_law_first", "_law_row"] "law" (defScope szlaw) fA cdv A outer s H E).nox EX0 stzlaw_p9 (Pzlaw_p9 cv) := (pd_if (pdt_cmp (op_neD hr.units) (pd_var 8) (pd_F (pdf_lst pda_nil))) (show PDS _ _ [stzlaw_p10, stzlaw_p11, stzlaw_p12, stzlaw_p13, stzlaw_p14] _ from (pds_cons (okzlaw_p10 b_len b_range cl_Panes hzPanes___init__ hzPanes_add hzPanes_back hzPanes_back_in hzPanes_close hzPanes_done hzPanes_forth hzPanes_names hzPanes_place hzPanes_seen hzPanes_steps hz_law_drawn hz_law_panes fA cdv A outer s H E hr) (pds_cons (okzlaw_p11 b_len b_range cl_Panes hzPanes___init__ hzPanes_add hzPanes_back hzPanes_back_in hzPanes_close hzPanes_done hzPanes_forth hzPanes_names hzPanes_place hzPanes_seen hzPanes_steps hz_law_drawn hz_law_panes fA cdv A outer s H E hr) (pds_cons (okzlaw_p12 b_len b_range cl_Panes hzPanes___init__ hzPanes_add hzPanes_back hzPanes_back_in hzPanes_close hzPanes_done hzPanes_forth hzPanes_names hzPanes_place hzPanes_seen hzPanes_steps hz_law_drawn hz_law_panes fA cdv A outer s H E hr) (pds_cons (okzlaw_p13 b_len b_range cl_Panes hzPanes___init__ hzPanes_add hzPanes_back hzPanes_back_in hzPanes_close hzPanes_done hzPanes_forth hzPanes_names hzPanes_place hzPanes_seen hzPanes_steps hz_law_drawn hz_law_panes fA cdv A outer s H E hr) (pds_one (okzlaw_p14 b_len b_range cl_Panes hzPanes___init__ hzPanes_add hzPanes_back hzPanes_back_in hzPanes_close hzPanes_done hzPanes_forth hzPanes_names hzPanes_place hzPanes_seen hzPanes_steps hz_law_drawn hz_law_panes fA cdv A outer s H E hr))))))) pds_nil)
set_option maxHeartbeats 4000000 in
theorem okzlaw_p15 (b_len : mg "len" = none) (b_range : mg "range" = none)  (cl_Panes : Cls K (cv 3)) (hzPanes___init__ : MkAt P w K mg base "Panes" (cv 3) 1 (FzPanes___init__ cv)) (hzPanes_add : MtX P w K mg base (cv 3) "add" 1 (FzPanes_add cv)) (hzPanes_back : MtX P w K mg base (cv 3) "back" 1 (FzPanes_back cv)) (hzPanes_back_in : MtX P w K mg base (cv 3) "back_in" 2 (FzPanes_back_in cv)) (hzPanes_close : MtX P w K mg base (cv 3) "close" 2 (FzPanes_close cv)) (hzPanes_done : MtAt P w K mg base (cv 3) "done" 1 (FzPanes_done cv)) (hzPanes_forth : MtX P w K mg base (cv 3) "forth" 1 (FzPanes_forth cv)) (hzPanes_names : MtAt P w K mg base (cv 3) "names" 1 (FzPanes_names cv)) (hzPanes_place : MtX P w K mg base (cv 3) "place" 2 (FzPanes_place cv)) (hzPanes_seen : MtX P w K mg base (cv 3) "seen" 3 (FzPanes_seen cv)) (hzPanes_steps : MtAt P w K mg base (cv 3) "steps" 1 (FzPanes_steps cv)) (hz_law_drawn : FnAt P w K mg base "_law_drawn" 2 Fz_law_drawn) (hz_law_panes : FnX P w K mg base "_law_panes" 4 (Fz_law_panes cv)) (fA : Addr) (cdv : Value) (A : Around) (outer : List Env) (s : Shared) (H : Hp) (E : XK) (hr : Room 4 (A.deeper (PyProof.Rows.envOfC "law" (defScope szlaw) s.heap.objs.size fA cdv))) : PDs (cxOf CX0 P w K mg base ["_law_script", "_law_panes_here", "_law_found", "_law_rows", "_law_done", "_law_name", "_law_others", "_law_shown", "_law_own", "_law_copy", "_law_last", "_law_left", "_law_first", "_law_row"] "law" (defScope szlaw) fA cdv A outer s H E).nox EX0 stzlaw_p15 (Pzlaw_p15 cv) := (pd_if (PDW.pt (pdw_or (pdt_cmp (op_neD hr.units) (pd_mtX hzPanes_close xt_nox cl_Panes hr (by decide) (pd_var 1) (pda_cons (pd_var 5) pda_nil)) (pd_callB call_lenD rfl b_len PySem.boot_len (pda_cons (pd_F (pdf_lc rfl ⟨Blk.of (N := ["_law_row", "_law_name"]) (caps := [5]) (nT := 1) (by show blkB (defScope szlaw) _ ["_law_script", "_law_panes_here", "_law_found", "_law_rows", "_law_done", "_law_name", "_law_others", "_law_shown", "_law_own", "_law_copy", "_law_last", "_law_left", "_law_first", "_law_row"] _ _ _ = true; decide +kernel), fun _ _ _ _ => (pgd_name 0 (by show (["_law_row", "_law_name"] : List Str).Nodup; decide +kernel) rfl (by first | exact Or.inl rfl | exact Or.inr rfl)), fun _ _ _ _ => pts_one (pdt_cmp (op_eqD hr.units) (pd_ix (pd_var 0) pd_int) (pd_var 1)), fun _ _ _ _ => (pd_var 0)⟩ (pid_seq (pd_var 3)))) pda_nil))) (pdw_or1 (pdt_cmp (op_neD hr.units) (pd_mt0 hzPanes_names cl_Panes hr (by decide) (pd_var 1)) (pd_var 6))))) (pds_one (pd_ret pd_bl)) pds_nil)
set_option maxHeartbeats 4000000 in
theorem okzlaw_p16 (b_len : mg "len" = none) (b_range : mg "range" = none)  (cl_Panes : Cls K (cv 3)) (hzPanes___init__ : MkAt P w K mg base "Panes" (cv 3) 1 (FzPanes___init__ cv)) (hzPanes_add : MtX P w K mg base (cv 3) "add" 1 (FzPanes_add cv)) (hzPanes_back : MtX P w K mg base (cv 3) "back" 1 (FzPanes_back cv)) (hzPanes_back_in : MtX P w K mg base (cv 3) "back_in" 2 (FzPanes_back_in cv)) (hzPanes_close : MtX P w K mg base (cv 3) "close" 2 (FzPanes_close cv)) (hzPanes_done : MtAt P w K mg base (cv 3) "done" 1 (FzPanes_done cv)) (hzPanes_forth : MtX P w K mg base (cv 3) "forth" 1 (FzPanes_forth cv)) (hzPanes_names : MtAt P w K mg base (cv 3) "names" 1 (FzPanes_names cv)) (hzPanes_place : MtX P w K mg base (cv 3) "place" 2 (FzPanes_place cv)) (hzPanes_seen : MtX P w K mg base (cv 3) "seen" 3 (FzPanes_seen cv)) (hzPanes_steps : MtAt P w K mg base (cv 3) "steps" 1 (FzPanes_steps cv)) (hz_law_drawn : FnAt P w K mg base "_law_drawn" 2 Fz_law_drawn) (hz_law_panes : FnX P w K mg base "_law_panes" 4 (Fz_law_panes cv)) (fA : Addr) (cdv : Value) (A : Around) (outer : List Env) (s : Shared) (H : Hp) (E : XK) (hr : Room 4 (A.deeper (PyProof.Rows.envOfC "law" (defScope szlaw) s.heap.objs.size fA cdv))) : PDs (cxOf CX0 P w K mg base ["_law_script", "_law_panes_here", "_law_found", "_law_rows", "_law_done", "_law_name", "_law_others", "_law_shown", "_law_own", "_law_copy", "_law_last", "_law_left", "_law_first", "_law_row"] "law" (defScope szlaw) fA cdv A outer s H E).nox EX0 stzlaw_p16 Pzlaw_p16 := (pd_setLC 11 rfl ⟨Blk.of (N := ["_law_row", "_law_name"]) (caps := [5]) (nT := 1) (by show blkB (defScope szlaw) _ ["_law_script", "_law_panes_here", "_law_found", "_law_rows", "_law_done", "_law_name", "_law_others", "_law_shown", "_law_own", "_law_copy", "_law_last", "_law_left", "_law_first", "_law_row"] _ _ _ = true; decide +kernel), fun _ _ _ _ => (pgd_name 0 (by show (["_law_row", "_law_name"] : List Str).Nodup; decide +kernel) rfl (by first | exact Or.inl rfl | exact Or.inr rfl)), fun _ _ _ _ => pts_one (pdt_cmp (op_neD hr.units) (pd_ix (pd_var 0) pd_int) (pd_var 1)), fun _ _ _ _ => (pd_var 0)⟩ (pid_seq (pd_var 3)) sczlaw.nd rfl (by first | exact Or.inl rfl | exact Or.inr rfl))
set_option maxHeartbeats 4000000 in
theorem okzlaw_p17 (b_len : mg "len" = none) (b_range : mg "range" = none)  (cl_Panes : Cls K (cv 3)) (hzPanes___init__ : MkAt P w K mg base "Panes" (cv 3) 1 (FzPanes___init__ cv)) (hzPanes_add : MtX P w K mg base (cv 3) "add" 1 (FzPanes_add cv)) (hzPanes_back : MtX P w K mg base (cv 3) "back" 1 (FzPanes_back cv)) (hzPanes_back_in : MtX P w K mg base (cv 3) "back_in" 2 (FzPanes_back_in cv)) (hzPanes_close : MtX P w K mg base (cv 3) "close" 2 (FzPanes_close cv)) (hzPanes_done : MtAt P w K mg base (cv 3) "done" 1 (FzPanes_done cv)) (hzPanes_forth : MtX P w K mg base (cv 3) "forth" 1 (FzPanes_forth cv)) (hzPanes_names : MtAt P w K mg base (cv 3) "names" 1 (FzPanes_names cv)) (hzPanes_place : MtX P w K mg base (cv 3) "place" 2 (FzPanes_place cv)) (hzPanes_seen : MtX P w K mg base (cv 3) "seen" 3 (FzPanes_seen cv)) (hzPanes_steps : MtAt P w K mg base (cv 3) "steps" 1 (FzPanes_steps cv)) (hz_law_drawn : FnAt P w K mg base "_law_drawn" 2 Fz_law_drawn) (hz_law_panes : FnX P w K mg base "_law_panes" 4 (Fz_law_panes cv)) (fA : Addr) (cdv : Value) (A : Around) (outer : List Env) (s : Shared) (H : Hp) (E : XK) (hr : Room 4 (A.deeper (PyProof.Rows.envOfC "law" (defScope szlaw) s.heap.objs.size fA cdv))) : PDs (cxOf CX0 P w K mg base ["_law_script", "_law_panes_here", "_law_found", "_law_rows", "_law_done", "_law_name", "_law_others", "_law_shown", "_law_own", "_law_copy", "_law_last", "_law_left", "_law_first", "_law_row"] "law" (defScope szlaw) fA cdv A outer s H E).nox EX0 stzlaw_p17 (Pzlaw_p17 cv) := (pd_if (pdt_cmp (op_neD hr.units) (pd_mt0 hzPanes_steps cl_Panes hr (by decide) (pd_var 1)) (pd_var 11)) (pds_one (pd_ret pd_bl)) pds_nil)
set_option maxHeartbeats 4000000 in
theorem okzlaw_p18 (b_len : mg "len" = none) (b_range : mg "range" = none)  (cl_Panes : Cls K (cv 3)) (hzPanes___init__ : MkAt P w K mg base "Panes" (cv 3) 1 (FzPanes___init__ cv)) (hzPanes_add : MtX P w K mg base (cv 3) "add" 1 (FzPanes_add cv)) (hzPanes_back : MtX P w K mg base (cv 3) "back" 1 (FzPanes_back cv)) (hzPanes_back_in : MtX P w K mg base (cv 3) "back_in" 2 (FzPanes_back_in cv)) (hzPanes_close : MtX P w K mg base (cv 3) "close" 2 (FzPanes_close cv)) (hzPanes_done : MtAt P w K mg base (cv 3) "done" 1 (FzPanes_done cv)) (hzPanes_forth : MtX P w K mg base (cv 3) "forth" 1 (FzPanes_forth cv)) (hzPanes_names : MtAt P w K mg base (cv 3) "names" 1 (FzPanes_names cv)) (hzPanes_place : MtX P w K mg base (cv 3) "place" 2 (FzPanes_place cv)) (hzPanes_seen : MtX P w K mg base (cv 3) "seen" 3 (FzPanes_seen cv)) (hzPanes_steps : MtAt P w K mg base (cv 3) "steps" 1 (FzPanes_steps cv)) (hz_law_drawn : FnAt P w K mg base "_law_drawn" 2 Fz_law_drawn) (hz_law_panes : FnX P w K mg base "_law_panes" 4 (Fz_law_panes cv)) (fA : Addr) (cdv : Value) (A : Around) (outer : List Env) (s : Shared) (H : Hp) (E : XK) (hr : Room 4 (A.deeper (PyProof.Rows.envOfC "law" (defScope szlaw) s.heap.objs.size fA cdv))) : PDs (cxOf CX0 P w K mg base ["_law_script", "_law_panes_here", "_law_found", "_law_rows", "_law_done", "_law_name", "_law_others", "_law_shown", "_law_own", "_law_copy", "_law_last", "_law_left", "_law_first", "_law_row"] "law" (defScope szlaw) fA cdv A outer s H E).nox EX0 stzlaw_p18 (Pzlaw_p18 cv) := (pd_if (pdt_cmp (op_neD hr.units) (pd_mt0 hzPanes_done cl_Panes hr (by decide) (pd_var 1)) (pd_callB call_lenD rfl b_len PySem.boot_len (pda_cons (pd_F (pdf_lc rfl ⟨Blk.of (N := ["_law_row", "_law_name"]) (caps := [5]) (nT := 1) (by show blkB (defScope szlaw) _ ["_law_script", "_law_panes_here", "_law_found", "_law_rows", "_law_done", "_law_name", "_law_others", "_law_shown", "_law_own", "_law_copy", "_law_last", "_law_left", "_law_first", "_law_row"] _ _ _ = true; decide +kernel), fun _ _ _ _ => (pgd_name 0 (by show (["_law_row", "_law_name"] : List Str).Nodup; decide +kernel) rfl (by first | exact Or.inl rfl | exact Or.inr rfl)), fun _ _ _ _ => pts_one (pdt_cmp (op_neD hr.units) (pd_ix (pd_var 0) pd_int) (pd_var 1)), fun _ _ _ _ => (pd_var 0)⟩ (pid_seq (pd_F (pdf_slice sl_F (pd_var 3) pdo_none (pdo_some (pd_var 4))))))) pda_nil))) (pds_one (pd_ret pd_bl)) pds_nil)
set_option maxHeartbeats 4000000 in
theorem okzlaw_p19 (b_len : mg "len" = none) (b_range : mg "range" = none)  (cl_Panes : Cls K (cv 3)) (hzPanes___init__ : MkAt P w K mg base "Panes" (cv 3) 1 (FzPanes___init__ cv)) (hzPanes_add : MtX P w K mg base (cv 3) "add" 1 (FzPanes_add cv)) (hzPanes_back : MtX P w K mg base (cv 3) "back" 1 (FzPanes_back cv)) (hzPanes_back_in : MtX P w K mg base (cv 3) "back_in" 2 (FzPanes_back_in cv)) (hzPanes_close : MtX P w K mg base (cv 3) "close" 2 (FzPanes_close cv)) (hzPanes_done : MtAt P w K mg base (cv 3) "done" 1 (FzPanes_done cv)) (hzPanes_forth : MtX P w K mg base (cv 3) "forth" 1 (FzPanes_forth cv)) (hzPanes_names : MtAt P w K mg base (cv 3) "names" 1 (FzPanes_names cv)) (hzPanes_place : MtX P w K mg base (cv 3) "place" 2 (FzPanes_place cv)) (hzPanes_seen : MtX P w K mg base (cv 3) "seen" 3 (FzPanes_seen cv)) (hzPanes_steps : MtAt P w K mg base (cv 3) "steps" 1 (FzPanes_steps cv)) (hz_law_drawn : FnAt P w K mg base "_law_drawn" 2 Fz_law_drawn) (hz_law_panes : FnX P w K mg base "_law_panes" 4 (Fz_law_panes cv)) (fA : Addr) (cdv : Value) (A : Around) (outer : List Env) (s : Shared) (H : Hp) (E : XK) (hr : Room 4 (A.deeper (PyProof.Rows.envOfC "law" (defScope szlaw) s.heap.objs.size fA cdv))) : PDs (cxOf CX0 P w K mg base ["_law_script", "_law_panes_here", "_law_found", "_law_rows", "_law_done", "_law_name", "_law_others", "_law_shown", "_law_own", "_law_copy", "_law_last", "_law_left", "_law_first", "_law_row"] "law" (defScope szlaw) fA cdv A outer s H E).nox EX0 stzlaw_p19 (Pzlaw_p19 cv) := (pd_if (pdt_cmp (op_neD hr.units) (pd_F (pdf_lc rfl ⟨Blk.of (N := ["_law_one", "_law_panes_here"]) (caps := [1]) (nT := 1) (by show blkB (defScope szlaw) _ ["_law_script", "_law_panes_here", "_law_found", "_law_rows", "_law_done", "_law_name", "_law_others", "_law_shown", "_law_own", "_law_copy", "_law_last", "_law_left", "_law_first", "_law_row"] _ _ _ = true; decide +kernel), fun _ _ _ _ => (pgd_name 0 (by show (["_law_one", "_law_panes_here"] : List Str).Nodup; decide +kernel) rfl (by first | exact Or.inl rfl | exact Or.inr rfl)), fun _ _ _ _ => pts_nil, fun _ _ _ _ => (pd_mtX hzPanes_place xt_comp cl_Panes hr (by decide) (pd_var 1) (pda_cons (pd_var 0) pda_nil))⟩ (pid_seq (pd_var 6)))) (pd_var 7)) (pds_one (pd_ret pd_bl)) pds_nil)
set_option maxHeartbeats 4000000 in
theorem okzlaw_p20 (b_len : mg "len" = none) (b_range : mg "range" = none)  (cl_Panes : Cls K (cv 3)) (hzPanes___init__ : MkAt P w K mg base "Panes" (cv 3) 1 (FzPanes___init__ cv)) (hzPanes_add : MtX P w K mg base (cv 3) "add" 1 (FzPanes_add cv)) (hzPanes_back : MtX P w K mg base (cv 3) "back" 1 (FzPanes_back cv)) (hzPanes_back_in : MtX P w K mg base (cv 3) "back_in" 2 (FzPanes_back_in cv)) (hzPanes_close : MtX P w K mg base (cv 3) "close" 2 (FzPanes_close cv)) (hzPanes_done : MtAt P w K mg base (cv 3) "done" 1 (FzPanes_done cv)) (hzPanes_forth : MtX P w K mg base (cv 3) "forth" 1 (FzPanes_forth cv)) (hzPanes_names : MtAt P w K mg base (cv 3) "names" 1 (FzPanes_names cv)) (hzPanes_place : MtX P w K mg base (cv 3) "place" 2 (FzPanes_place cv)) (hzPanes_seen : MtX P w K mg base (cv 3) "seen" 3 (FzPanes_seen cv)) (hzPanes_steps : MtAt P w K mg base (cv 3) "steps" 1 (FzPanes_steps cv)) (hz_law_drawn : FnAt P w K mg base "_law_drawn" 2 Fz_law_drawn) (hz_law_panes : FnX P w K mg base "_law_panes" 4 (Fz_law_panes cv)) (fA : Addr) (cdv : Value) (A : Around) (outer : List Env) (s : Shared) (H : Hp) (E : XK) (hr : Room 4 (A.deeper (PyProof.Rows.envOfC "law" (defScope szlaw) s.heap.objs.size fA cdv))) : PDs (cxOf CX0 P w K mg base ["_law_script", "_law_panes_here", "_law_found", "_law_rows", "_law_done", "_law_name", "_law_others", "_law_shown", "_law_own", "_law_copy", "_law_last", "_law_left", "_law_first", "_law_row"] "law" (defScope szlaw) fA cdv A outer s H E).nox EX0 stzlaw_p20 (Pzlaw_p20 cv) := (pd_while 100 PassesOwn.never (pdt_cmp op_gtD (pd_mt0 hzPanes_done cl_Panes hr (by decide) (pd_var 1)) pd_int) (pds_one (pd_expr (pd_mtX0 hzPanes_back xt_nox cl_Panes hr (by decide) (pd_var 1)))))
set_option maxHeartbeats 4000000 in
theorem okzlaw_p21 (b_len : mg "len" = none) (b_range : mg "range" = none)  (cl_Panes : Cls K (cv 3)) (hzPanes___init__ : MkAt P w K mg base "Panes" (cv 3) 1 (FzPanes___init__ cv)) (hzPanes_add : MtX P w K mg base (cv 3) "add" 1 (FzPanes_add cv)) (hzPanes_back : MtX P w K mg base (cv 3) "back" 1 (FzPanes_back cv)) (hzPanes_back_in : MtX P w K mg base (cv 3) "back_in" 2 (FzPanes_back_in cv)) (hzPanes_close : MtX P w K mg base (cv 3) "close" 2 (FzPanes_close cv)) (hzPanes_done : MtAt P w K mg base (cv 3) "done" 1 (FzPanes_done cv)) (hzPanes_forth : MtX P w K mg base (cv 3) "forth" 1 (FzPanes_forth cv)) (hzPanes_names : MtAt P w K mg base (cv 3) "names" 1 (FzPanes_names cv)) (hzPanes_place : MtX P w K mg base (cv 3) "place" 2 (FzPanes_place cv)) (hzPanes_seen : MtX P w K mg base (cv 3) "seen" 3 (FzPanes_seen cv)) (hzPanes_steps : MtAt P w K mg base (cv 3) "steps" 1 (FzPanes_steps cv)) (hz_law_drawn : FnAt P w K mg base "_law_drawn" 2 Fz_law_drawn) (hz_law_panes : FnX P w K mg base "_law_panes" 4 (Fz_law_panes cv)) (fA : Addr) (cdv : Value) (A : Around) (outer : List Env) (s : Shared) (H : Hp) (E : XK) (hr : Room 4 (A.deeper (PyProof.Rows.envOfC "law" (defScope szlaw) s.heap.objs.size fA cdv))) : PDs (cxOf CX0 P w K mg base ["_law_script", "_law_panes_here", "_law_found", "_law_rows", "_law_done", "_law_name", "_law_others", "_law_shown", "_law_own", "_law_copy", "_law_last", "_law_left", "_law_first", "_law_row"] "law" (defScope szlaw) fA cdv A outer s H E).nox EX0 stzlaw_p21 Pzlaw_p21 := (pd_setLC 12 rfl ⟨Blk.of (N := ["_law_one", "_law_found"]) (caps := [2]) (nT := 1) (by show blkB (defScope szlaw) _ ["_law_script", "_law_panes_here", "_law_found", "_law_rows", "_law_done", "_law_name", "_law_others", "_law_shown", "_law_own", "_law_copy", "_law_last", "_law_left", "_law_first", "_law_row"] _ _ _ = true; decide +kernel), fun _ _ _ _ => (pgd_name 0 (by show (["_law_one", "_law_found"] : List Str).Nodup; decide +kernel) rfl (by first | exact Or.inl rfl | exact Or.inr rfl)), fun _ _ _ _ => pts_nil, fun _ _ _ _ => (pd_ix (pd_ix (pd_var 1) pd_int) (pd_lm PySem.F.slot_list_index PySem.F.type_list_index (mt_indexD hr.units) (pd_F (pdf_lst (pda_cons pd_str (pda_cons pd_str (pda_cons pd_str pda_nil))))) (pda_cons (pd_var 0) pda_nil)))⟩ (pid_seq (pd_var 6)) sczlaw.nd rfl (by first | exact Or.inl rfl | exact Or.inr rfl))
set_option maxHeartbeats 4000000 in
theorem okzlaw_p22 (b_len : mg "len" = none) (b_range : mg "range" = none)  (cl_Panes : Cls K (cv 3)) (hzPanes___init__ : MkAt P w K mg base "Panes" (cv 3) 1 (FzPanes___init__ cv)) (hzPanes_add : MtX P w K mg base (cv 3) "add" 1 (FzPanes_add cv)) (hzPanes_back : MtX P w K mg base (cv 3) "back" 1 (FzPanes_back cv)) (hzPanes_back_in : MtX P w K mg base (cv 3) "back_in" 2 (FzPanes_back_in cv)) (hzPanes_close : MtX P w K mg base (cv 3) "close" 2 (FzPanes_close cv)) (hzPanes_done : MtAt P w K mg base (cv 3) "done" 1 (FzPanes_done cv)) (hzPanes_forth : MtX P w K mg base (cv 3) "forth" 1 (FzPanes_forth cv)) (hzPanes_names : MtAt P w K mg base (cv 3) "names" 1 (FzPanes_names cv)) (hzPanes_place : MtX P w K mg base (cv 3) "place" 2 (FzPanes_place cv)) (hzPanes_seen : MtX P w K mg base (cv 3) "seen" 3 (FzPanes_seen cv)) (hzPanes_steps : MtAt P w K mg base (cv 3) "steps" 1 (FzPanes_steps cv)) (hz_law_drawn : FnAt P w K mg base "_law_drawn" 2 Fz_law_drawn) (hz_law_panes : FnX P w K mg base "_law_panes" 4 (Fz_law_panes cv)) (fA : Addr) (cdv : Value) (A : Around) (outer : List Env) (s : Shared) (H : Hp) (E : XK) (hr : Room 4 (A.deeper (PyProof.Rows.envOfC "law" (defScope szlaw) s.heap.objs.size fA cdv))) : PDs (cxOf CX0 P w K mg base ["_law_script", "_law_panes_here", "_law_found", "_law_rows", "_law_done", "_law_name", "_law_others", "_law_shown", "_law_own", "_law_copy", "_law_last", "_law_left", "_law_first", "_law_row"] "law" (defScope szlaw) fA cdv A outer s H E).nox EX0 stzlaw_p22 (Pzlaw_p22 cv) := (pd_if (pdt_cmp (op_neD hr.units) (pd_F (pdf_lc rfl ⟨Blk.of (N := ["_law_one", "_law_panes_here"]) (caps := [1]) (nT := 1) (by show blkB (defScope szlaw) _ ["_law_script", "_law_panes_here", "_law_found", "_law_rows", "_law_done", "_law_name", "_law_others", "_law_shown", "_law_own", "_law_copy", "_law_last", "_law_left", "_law_first", "_law_row"] _ _ _ = true; decide +kernel), fun _ _ _ _ => (pgd_name 0 (by show (["_law_one", "_law_panes_here"] : List Str).Nodup; decide +kernel) rfl (by first | exact Or.inl rfl | exact Or.inr rfl)), fun _ _ _ _ => pts_nil, fun _ _ _ _ => (pd_mtX hzPanes_place xt_comp cl_Panes hr (by decide) (pd_var 1) (pda_cons (pd_var 0) pda_nil))⟩ (pid_seq (pd_var 6)))) (pd_var 12)) (pds_one (pd_ret pd_bl)) pds_nil)
set_option maxHeartbeats 4000000 in
theorem okzlaw_p23 (b_len : mg "len" = none) (b_range : mg "range" = none)  (cl_Panes : Cls K (cv 3)) (hzPanes___init__ : MkAt P w K mg base "Panes" (cv 3) 1 (FzPanes___init__ cv)) (hzPanes_add : MtX P w K mg base (cv 3) "add" 1 (FzPanes_add cv)) (hzPanes_back : MtX P w K mg base (cv 3) "back" 1 (FzPanes_back cv)) (hzPanes_back_in : MtX P w K mg base (cv 3) "back_in" 2 (FzPanes_back_in cv)) (hzPanes_close : MtX P w K mg base (cv 3) "close" 2 (FzPanes_close cv)) (hzPanes_done : MtAt P w K mg base (cv 3) "done" 1 (FzPanes_done cv)) (hzPanes_forth : MtX P w K mg base (cv 3) "forth" 1 (FzPanes_forth cv)) (hzPanes_names : MtAt P w K mg base (cv 3) "names" 1 (FzPanes_names cv)) (hzPanes_place : MtX P w K mg base (cv 3) "place" 2 (FzPanes_place cv)) (hzPanes_seen : MtX P w K mg base (cv 3) "seen" 3 (FzPanes_seen cv)) (hzPanes_steps : MtAt P w K mg base (cv 3) "steps" 1 (FzPanes_steps cv)) (hz_law_drawn : FnAt P w K mg base "_law_drawn" 2 Fz_law_drawn) (hz_law_panes : FnX P w K mg base "_law_panes" 4 (Fz_law_panes cv)) (fA : Addr) (cdv : Value) (A : Around) (outer : List Env) (s : Shared) (H : Hp) (E : XK) (hr : Room 4 (A.deeper (PyProof.Rows.envOfC "law" (defScope szlaw) s.heap.objs.size fA cdv))) : PDs (cxOf CX0 P w K mg base ["_law_script", "_law_panes_here", "_law_found", "_law_rows", "_law_done", "_law_name", "_law_others", "_law_shown", "_law_own", "_law_copy", "_law_last", "_law_left", "_law_first", "_law_row"] "law" (defScope szlaw) fA cdv A outer s H E).nox EX0 stzlaw_p23 (Pzlaw_p23 cv) := (pd_for PassesOwn.never rfl (pid_seq (pd_var 11)) (pgd_name 13 sczlaw.nd rfl (by first | exact Or.inl rfl | exact Or.inr rfl)) (pds_one (pd_if (PDW.pt (pdw_or (pdt_cmp (op_neD hr.units) (pd_mtX0 hzPanes_forth xt_nox cl_Panes hr (by decide) (pd_var 1)) (pd_ix (pd_var 13) pd_int)) (pdw_or1 (pdt_cmp (op_neD hr.units) (pd_mtX hzPanes_place xt_nox cl_Panes hr (by decide) (pd_var 1) (pda_cons (pd_ix (pd_var 13) pd_int) pda_nil)) (pd_ix (pd_var 13) pd_int))))) (pds_one (pd_ret pd_bl)) pds_nil)))
set_option maxHeartbeats 4000000 in
theorem okzlaw_p24 (b_len : mg "len" = none) (b_range : mg "range" = none)  (cl_Panes : Cls K (cv 3)) (hzPanes___init__ : MkAt P w K mg base "Panes" (cv 3) 1 (FzPanes___init__ cv)) (hzPanes_add : MtX P w K mg base (cv 3) "add" 1 (FzPanes_add cv)) (hzPanes_back : MtX P w K mg base (cv 3) "back" 1 (FzPanes_back cv)) (hzPanes_back_in : MtX P w K mg base (cv 3) "back_in" 2 (FzPanes_back_in cv)) (hzPanes_close : MtX P w K mg base (cv 3) "close" 2 (FzPanes_close cv)) (hzPanes_done : MtAt P w K mg base (cv 3) "done" 1 (FzPanes_done cv)) (hzPanes_forth : MtX P w K mg base (cv 3) "forth" 1 (FzPanes_forth cv)) (hzPanes_names : MtAt P w K mg base (cv 3) "names" 1 (FzPanes_names cv)) (hzPanes_place : MtX P w K mg base (cv 3) "place" 2 (FzPanes_place cv)) (hzPanes_seen : MtX P w K mg base (cv 3) "seen" 3 (FzPanes_seen cv)) (hzPanes_steps : MtAt P w K mg base (cv 3) "steps" 1 (FzPanes_steps cv)) (hz_law_drawn : FnAt P w K mg base "_law_drawn" 2 Fz_law_drawn) (hz_law_panes : FnX P w K mg base "_law_panes" 4 (Fz_law_panes cv)) (fA : Addr) (cdv : Value) (A : Around) (outer : List Env) (s : Shared) (H : Hp) (E : XK) (hr : Room 4 (A.deeper (PyProof.Rows.envOfC "law" (defScope szlaw) s.heap.objs.size fA cdv))) : PDs (cxOf CX0 P w K mg base ["_law_script", "_law_panes_here", "_law_found", "_law_rows", "_law_done", "_law_name", "_law_others", "_law_shown", "_law_own", "_law_copy", "_law_last", "_law_left", "_law_first", "_law_row"] "law" (defScope szlaw) fA cdv A outer s H E).nox EX0 stzlaw_p24 (Pzlaw_p24 cv) := (pd_expr (pd_mtX hzPanes_add xt_nox cl_Panes hr (by decide) (pd_var 1) (pda_cons (pd_var 5) (pda_cons (pd_tup (pda_cons pd_str pda_nil)) pda_nil))))
set_option maxHeartbeats 4000000 in
theorem okzlaw_p25 (b_len : mg "len" = none) (b_range : mg "range" = none)  (cl_Panes : Cls K (cv 3)) (hzPanes___init__ : MkAt P w K mg base "Panes" (cv 3) 1 (FzPanes___init__ cv)) (hzPanes_add : MtX P w K mg base (cv 3) "add" 1 (FzPanes_add cv)) (hzPanes_back : MtX P w K mg base (cv 3) "back" 1 (FzPanes_back cv)) (hzPanes_back_in : MtX P w K mg base (cv 3) "back_in" 2 (FzPanes_back_in cv)) (hzPanes_close : MtX P w K mg base (cv 3) "close" 2 (FzPanes_close cv)) (hzPanes_done : MtAt P w K mg base (cv 3) "done" 1 (FzPanes_done cv)) (hzPanes_forth : MtX P w K mg base (cv 3) "forth" 1 (FzPanes_forth cv)) (hzPanes_names : MtAt P w K mg base (cv 3) "names" 1 (FzPanes_names cv)) (hzPanes_place : MtX P w K mg base (cv 3) "place" 2 (FzPanes_place cv)) (hzPanes_seen : MtX P w K mg base (cv 3) "seen" 3 (FzPanes_seen cv)) (hzPanes_steps : MtAt P w K mg base (cv 3) "steps" 1 (FzPanes_steps cv)) (hz_law_drawn : FnAt P w K mg base "_law_drawn" 2 Fz_law_drawn) (hz_law_panes : FnX P w K mg base "_law_panes" 4 (Fz_law_panes cv)) (fA : Addr) (cdv : Value) (A : Around) (outer : List Env) (s : Shared) (H : Hp) (E : XK) (hr : Room 4 (A.deeper (PyProof.Rows.envOfC "law" (defScope szlaw) s.heap.objs.size fA cdv))) : PDs (cxOf CX0 P w K mg base ["_law_script", "_law_panes_here", "_law_found", "_law_rows", "_law_done", "_law_name", "_law_others", "_law_shown", "_law_own", "_law_copy", "_law_last", "_law_left", "_law_first", "_law_row"] "law" (defScope szlaw) fA cdv A outer s H E).nox EX0 stzlaw_p25 (Pzlaw_p25 cv) := (pd_ret (pd_and (pd_cmp (op_eqD hr.units) (pd_mtX hzPanes_seen xt_nox cl_Panes hr (by decide) (pd_var 1) (pda_cons (pd_var 5) pda_nil)) (pd_F (pdf_lst (pda_cons (pd_tup (pda_cons pd_str pda_nil)) pda_nil)))) (pd_and (pd_cmp (op_eqD hr.units) (pd_mt0 hzPanes_steps cl_Panes hr (by decide) (pd_var 1)) (pd_var 11)) (pd_one (pd_cmp (op_eqD hr.units) (pd_mtX hzPanes_place xt_nox cl_Panes hr (by decide) (pd_var 1) (pda_cons (pd_var 5) pda_nil)) (pd_tup (pda_cons pd_str pda_nil)))))))
set_option maxHeartbeats 4000000 in
theorem okzlaw {f : Addr} {fd : FuncData} (F : Fun K "law" "law" szlaw f fd) (b_len : mg "len" = none) (b_range : mg "range" = none)  (cl_Panes : Cls K (cv 3)) (hzPanes___init__ : MkAt P w K mg base "Panes" (cv 3) 1 (FzPanes___init__ cv)) (hzPanes_add : MtX P w K mg base (cv 3) "add" 1 (FzPanes_add cv)) (hzPanes_back : MtX P w K mg base (cv 3) "back" 1 (FzPanes_back cv)) (hzPanes_back_in : MtX P w K mg base (cv 3) "back_in" 2 (FzPanes_back_in cv)) (hzPanes_close : MtX P w K mg base (cv 3) "close" 2 (FzPanes_close cv)) (hzPanes_done : MtAt P w K mg base (cv 3) "done" 1 (FzPanes_done cv)) (hzPanes_forth : MtX P w K mg base (cv 3) "forth" 1 (FzPanes_forth cv)) (hzPanes_names : MtAt P w K mg base (cv 3) "names" 1 (FzPanes_names cv)) (hzPanes_place : MtX P w K mg base (cv 3) "place" 2 (FzPanes_place cv)) (hzPanes_seen : MtX P w K mg base (cv 3) "seen" 3 (FzPanes_seen cv)) (hzPanes_steps : MtAt P w K mg base (cv 3) "steps" 1 (FzPanes_steps cv)) (hz_law_drawn : FnAt P w K mg base "_law_drawn" 2 Fz_law_drawn) (hz_law_panes : FnX P w K mg base "_law_panes" 4 (Fz_law_panes cv)) : FnOk P w K mg base CX0 5 f fd ["_law_script"] (spD K (Fzlaw cv)) :=
  fnD (k := 4) F sczlaw fun cdv A outer s H E hr => (show PDS _ _ [stzlaw_p1, stzlaw_p2, stzlaw_p3, stzlaw_p4, stzlaw_p5, stzlaw_p6, stzlaw_p7, stzlaw_p8, stzlaw_p9, stzlaw_p15, stzlaw_p16, stzlaw_p17, stzlaw_p18, stzlaw_p19, stzlaw_p20, stzlaw_p21, stzlaw_p22, stzlaw_p23, stzlaw_p24, stzlaw_p25] _ from (pds_cons (okzlaw_p1 b_len b_range cl_Panes hzPanes___init__ hzPanes_add hzPanes_back hzPanes_back_in hzPanes_close hzPanes_done hzPanes_forth hzPanes_names hzPanes_place hzPanes_seen hzPanes_steps hz_law_drawn hz_law_panes f cdv A outer s H E hr) (pds_cons (okzlaw_p2 b_len b_range cl_Panes hzPanes___init__ hzPanes_add hzPanes_back hzPanes_back_in hzPanes_close hzPanes_done hzPanes_forth hzPanes_names hzPanes_place hzPanes_seen hzPanes_steps hz_law_drawn hz_law_panes f cdv A outer s H E hr) (pds_cons (okzlaw_p3 b_len b_range cl_Panes hzPanes___init__ hzPanes_add hzPanes_back hzPanes_back_in hzPanes_close hzPanes_done hzPanes_forth hzPanes_names hzPanes_place hzPanes_seen hzPanes_steps hz_law_drawn hz_law_panes f cdv A outer s H E hr) (pds_cons (okzlaw_p4 b_len b_range cl_Panes hzPanes___init__ hzPanes_add hzPanes_back hzPanes_back_in hzPanes_close hzPanes_done hzPanes_forth hzPanes_names hzPanes_place hzPanes_seen hzPanes_steps hz_law_drawn hz_law_panes f cdv A outer s H E hr) (pds_cons (okzlaw_p5 b_len b_range cl_Panes hzPanes___init__ hzPanes_add hzPanes_back hzPanes_back_in hzPanes_close hzPanes_done hzPanes_forth hzPanes_names hzPanes_place hzPanes_seen hzPanes_steps hz_law_drawn hz_law_panes f cdv A outer s H E hr) (pds_cons (okzlaw_p6 b_len b_range cl_Panes hzPanes___init__ hzPanes_add hzPanes_back hzPanes_back_in hzPanes_close hzPanes_done hzPanes_forth hzPanes_names hzPanes_place hzPanes_seen hzPanes_steps hz_law_drawn hz_law_panes f cdv A outer s H E hr) (pds_cons (okzlaw_p7 b_len b_range cl_Panes hzPanes___init__ hzPanes_add hzPanes_back hzPanes_back_in hzPanes_close hzPanes_done hzPanes_forth hzPanes_names hzPanes_place hzPanes_seen hzPanes_steps hz_law_drawn hz_law_panes f cdv A outer s H E hr) (pds_cons (okzlaw_p8 b_len b_range cl_Panes hzPanes___init__ hzPanes_add hzPanes_back hzPanes_back_in hzPanes_close hzPanes_done hzPanes_forth hzPanes_names hzPanes_place hzPanes_seen hzPanes_steps hz_law_drawn hz_law_panes f cdv A outer s H E hr) (pds_cons (okzlaw_p9 b_len b_range cl_Panes hzPanes___init__ hzPanes_add hzPanes_back hzPanes_back_in hzPanes_close hzPanes_done hzPanes_forth hzPanes_names hzPanes_place hzPanes_seen hzPanes_steps hz_law_drawn hz_law_panes f cdv A outer s H E hr) (pds_cons (okzlaw_p15 b_len b_range cl_Panes hzPanes___init__ hzPanes_add hzPanes_back hzPanes_back_in hzPanes_close hzPanes_done hzPanes_forth hzPanes_names hzPanes_place hzPanes_seen hzPanes_steps hz_law_drawn hz_law_panes f cdv A outer s H E hr) (pds_cons (okzlaw_p16 b_len b_range cl_Panes hzPanes___init__ hzPanes_add hzPanes_back hzPanes_back_in hzPanes_close hzPanes_done hzPanes_forth hzPanes_names hzPanes_place hzPanes_seen hzPanes_steps hz_law_drawn hz_law_panes f cdv A outer s H E hr) (pds_cons (okzlaw_p17 b_len b_range cl_Panes hzPanes___init__ hzPanes_add hzPanes_back hzPanes_back_in hzPanes_close hzPanes_done hzPanes_forth hzPanes_names hzPanes_place hzPanes_seen hzPanes_steps hz_law_drawn hz_law_panes f cdv A outer s H E hr) (pds_cons (okzlaw_p18 b_len b_range cl_Panes hzPanes___init__ hzPanes_add hzPanes_back hzPanes_back_in hzPanes_close hzPanes_done hzPanes_forth hzPanes_names hzPanes_place hzPanes_seen hzPanes_steps hz_law_drawn hz_law_panes f cdv A outer s H E hr) (pds_cons (okzlaw_p19 b_len b_range cl_Panes hzPanes___init__ hzPanes_add hzPanes_back hzPanes_back_in hzPanes_close hzPanes_done hzPanes_forth hzPanes_names hzPanes_place hzPanes_seen hzPanes_steps hz_law_drawn hz_law_panes f cdv A outer s H E hr) (pds_cons (okzlaw_p20 b_len b_range cl_Panes hzPanes___init__ hzPanes_add hzPanes_back hzPanes_back_in hzPanes_close hzPanes_done hzPanes_forth hzPanes_names hzPanes_place hzPanes_seen hzPanes_steps hz_law_drawn hz_law_panes f cdv A outer s H E hr) (pds_cons (okzlaw_p21 b_len b_range cl_Panes hzPanes___init__ hzPanes_add hzPanes_back hzPanes_back_in hzPanes_close hzPanes_done hzPanes_forth hzPanes_names hzPanes_place hzPanes_seen hzPanes_steps hz_law_drawn hz_law_panes f cdv A outer s H E hr) (pds_cons (okzlaw_p22 b_len b_range cl_Panes hzPanes___init__ hzPanes_add hzPanes_back hzPanes_back_in hzPanes_close hzPanes_done hzPanes_forth hzPanes_names hzPanes_place hzPanes_seen hzPanes_steps hz_law_drawn hz_law_panes f cdv A outer s H E hr) (pds_cons (okzlaw_p23 b_len b_range cl_Panes hzPanes___init__ hzPanes_add hzPanes_back hzPanes_back_in hzPanes_close hzPanes_done hzPanes_forth hzPanes_names hzPanes_place hzPanes_seen hzPanes_steps hz_law_drawn hz_law_panes f cdv A outer s H E hr) (pds_cons (okzlaw_p24 b_len b_range cl_Panes hzPanes___init__ hzPanes_add hzPanes_back hzPanes_back_in hzPanes_close hzPanes_done hzPanes_forth hzPanes_names hzPanes_place hzPanes_seen hzPanes_steps hz_law_drawn hz_law_panes f cdv A outer s H E hr) (pds_one (okzlaw_p25 b_len b_range cl_Panes hzPanes___init__ hzPanes_add hzPanes_back hzPanes_back_in hzPanes_close hzPanes_done hzPanes_forth hzPanes_names hzPanes_place hzPanes_seen hzPanes_steps hz_law_drawn hz_law_panes f cdv A outer s H E hr))))))))))))))))))))))
end
end K42

end
/-! K42b -/
section
set_option Elab.async false
set_option linter.all false
set_option maxRecDepth 100000
set_option maxHeartbeats 2000000
namespace K42
open PySem L2 DL
/-! ### the draws -/
noncomputable def cellV (ns : List Int) (k : Int) : Int := if ns = [] then 7 * k else ns.getD (k % ns.length).toNat 0 + 6553 * (k / ns.length)
theorem eq_scr_nil (xs : List D) (st : Sto) : eqD (.scr xs) (.lst []) st = .ok (.bl xs.isEmpty) st := by
  cases xs <;> rfl
theorem len_scr (xs : List D) (st : Sto) : lenD [.scr xs] st = .ok (.int xs.length) st := rfl
theorem ix_scr (ns : List Int) (k : Int) (st : Sto) (h0 : 0 ≤ k) (h1 : k < ns.length) : ixD (.scr (ns.map .int)) (.int k) st = .ok (.int (ns.getD k.toNat 0)) st := by
  have e : L2.atI (ns.map D.int) k = some (.int (ns.getD k.toNat 0)) := by
    unfold L2.atI L2.ixN
    rw [if_pos h0, if_pos (by rw [List.length_map]; exact h1)]
    have hk : k.toNat < ns.length := by omega
    simp [List.getElem?_map, List.getElem?_eq_getElem hk]
  simp [ixD, itemsOf, seqL, e]
theorem cell_eq (ns : List Int) (hl : ns.length ≤ 63) (k : Int) (st : Sto) : Fz_law_cell [.scr (ns.map .int), .int k] st = .ok (.int (cellV ns k)) st := by
  unfold Fz_law_cell gz_law_cell cellV
  by_cases h : ns = []
  · subst h
    have e1 := mul2_int _ _ st (mulOk_l 7 k (by decide) (by decide))
    have e2 := eq_scr_nil [] st
    simp [e1, e2]
  · have hp : 0 < ns.length := List.length_pos_iff.mpr h
    have h1 : (0 : Int) < (ns.length : Int) := by omega
    have h2 : 0 ≤ k % (ns.length : Int) := Int.emod_nonneg _ (by omega)
    have h3 : k % (ns.length : Int) < ns.length := Int.emod_lt_of_pos _ h1
    have e0 := eq_scr_nil (ns.map .int) st
    have e1 := len_scr (ns.map .int) st
    have e2 := mod_int k _ st h1
    have e3 := fdiv_int k _ st h1 (by omega : (ns.length : Int) < 1073741824)
    have e4 := ix_scr ns _ st h2 h3
    have e5 := mul2_int _ _ st (mulOk_l 6553 (k / ns.length) (by decide) (by decide))
    rw [List.length_map] at e1
    simp [e0, e1, e2, e3, e4, e5, h]
noncomputable def mixA (c k : Int) : Int := (c % 2147483563 * 69069 + 104723 * (k + 1)) % 2147483563
noncomputable def mixB (a : Int) : Int := (a * a + a / 3) % 2147483399
noncomputable def mixC (b m : Int) : Int := (b * b + b / 7) % 2147483647 / 11 % m
noncomputable def drawnV (ns : List Int) (k m : Int) : Int := mixC (mixB (mixA (cellV ns k) k)) m
theorem drawn_eq (ns : List Int) (hl : ns.length ≤ 63) (k m : Int) (hm : 0 < m) (st : Sto) : Fz_law_drawn [.scr (ns.map .int), .int k, .int m] st = .ok (.int (drawnV ns k m)) st := by
  have a1 : 0 ≤ mixA (cellV ns k) k := Int.emod_nonneg _ (by decide)
  have a2 : mixA (cellV ns k) k < 2147483563 := Int.emod_lt_of_pos _ (by decide)
  have b1 : 0 ≤ mixB (mixA (cellV ns k) k) := Int.emod_nonneg _ (by decide)
  have b2 : mixB (mixA (cellV ns k) k) < 2147483399 := Int.emod_lt_of_pos _ (by decide)
  have c0 : 0 ≤ cellV ns k % 2147483563 := Int.emod_nonneg _ (by decide)
  have c1 : cellV ns k % 2147483563 < 2147483563 := Int.emod_lt_of_pos _ (by decide)
  have e1 : mul2D (.int (cellV ns k % 2147483563)) (.int 69069) st = .ok (.int (cellV ns k % 2147483563 * 69069)) st := mul2_int _ _ _ (mulOk_r _ _ (by decide) (by decide))
  have e2 : mul2D (.int 104723) (.int (k + 1)) st = .ok (.int (104723 * (k + 1))) st := mul2_int _ _ _ (mulOk_l _ _ (by decide) (by decide))
  have e3 : mul2D (.int (mixA (cellV ns k) k)) (.int (mixA (cellV ns k) k)) st = .ok (.int (mixA (cellV ns k) k * mixA (cellV ns k) k)) st := mul2_int _ _ _ (mulOk_l _ _ (by omega) (by omega))
  have e4 : mul2D (.int (mixB (mixA (cellV ns k) k))) (.int (mixB (mixA (cellV ns k) k))) st = .ok (.int (mixB (mixA (cellV ns k) k) * mixB (mixA (cellV ns k) k))) st := mul2_int _ _ _ (mulOk_l _ _ (by omega) (by omega))
  have hA : (cellV ns k % 2147483563 * 69069 + 104723 * (k + 1)) % 2147483563 = mixA (cellV ns k) k := rfl
  have hB : (mixA (cellV ns k) k * mixA (cellV ns k) k + mixA (cellV ns k) k / 3) % 2147483399 = mixB (mixA (cellV ns k) k) := rfl
  have e0 := cell_eq ns hl k st
  have m1 := fun i => mod_int i 2147483563 st (by decide)
  have m2 := fun i => mod_int i 2147483399 st (by decide)
  have m3 := fun i => mod_int i 2147483647 st (by decide)
  have m4 := fun i => mod_int i m st hm
  have d1 := fun i => fdiv_int i 3 st (by decide) (by decide)
  have d2 := fun i => fdiv_int i 7 st (by decide) (by decide)
  have d3 := fun i => fdiv_int i 11 st (by decide) (by decide)
  unfold Fz_law_drawn gz_law_drawn
  simp [e0, e1, e2, e3, e4, m1, m2, m3, m4, d1, d2, d3, hA, hB]
  rfl
theorem drawn_lo (ns : List Int) (k m : Int) (hm : 0 < m) : 0 ≤ drawnV ns k m := Int.emod_nonneg _ (by omega)
theorem drawn_hi (ns : List Int) (k m : Int) (hm : 0 < m) : drawnV ns k m < m := Int.emod_lt_of_pos _ hm
/-! ### places -/
noncomputable def letter (i : Nat) : Str := ⟨#[97 + i]⟩
theorem ix_abc (i : Int) (st : Sto) (h0 : 0 ≤ i) (h1 : i < 3) : ixD (.str "abc") (.int i) st = .ok (.str (letter i.toNat)) st := by
  have : i = 0 ∨ i = 1 ∨ i = 2 := by omega
  rcases this with rfl | rfl | rfl <;> rfl
noncomputable def placeV (ns : List Int) (at_ : Int) : List Str := (List.range (drawnV ns at_ 4).toNat).map fun (i : Nat) => letter (drawnV ns (at_ + 1 + (i : Int)) 3).toNat
theorem place_eq (ns : List Int) (hl : ns.length ≤ 63) (at_ : Int) (st : Sto) : Fz_law_place [.scr (ns.map .int), .int at_] st = .ok (pl (placeV ns at_)) st := by
  have e1 := drawn_eq ns hl at_ 4 (by decide) st
  have h1 := drawn_lo ns at_ 4 (by decide)
  have h2 := drawn_hi ns at_ 4 (by decide)
  have e2 : compD (fun _ => True) (tgName 0) dTrue Ez_law_place_1
      ((List.range (drawnV ns at_ 4).toNat).map (fun (i : Nat) => D.int (0 + i))) [none, some (.scr (ns.map .int)), some (.int at_)] st [] = .ok ((placeV ns at_).map .str) st := by
    rw [compD_map (fun ρ => ∃ a, ρ = [a, some (.scr (ns.map .int)), some (.int at_)]) (fun d => match d with | .int i => .str (letter (drawnV ns (at_ + 1 + i) 3).toNat) | _ => .non) trivial _ _ _ ⟨_, rfl⟩ (by simp [small]; omega)]
    · simp [placeV, List.map_map, Function.comp_def]
    · rintro x hx ρ ⟨a, rfl⟩
      obtain ⟨i, _, rfl⟩ := List.mem_map.mp hx
      refine ⟨_, rfl, ⟨_, rfl⟩, ?_⟩
      have e3 := drawn_eq ns hl (at_ + 1 + (0 + (i : Int))) 3 (by decide) st
      have e4 := ix_abc (drawnV ns (at_ + 1 + (0 + (i : Int))) 3) st (drawn_lo _ _ _ (by decide)) (drawn_hi _ _ _ (by decide))
      simp only [Int.zero_add] at e3 e4
      unfold Ez_law_place_1
      simp [e3, e4]
  have h3 : rngOk (drawnV ns at_ 4) = true := rngOk_of (by omega) (by omega)
  unfold Fz_law_place gz_law_place
  simp only [Int.zero_add] at e2
  simp [e1, e2, h3, capEv, tuple_lst, dRng1]
  rfl
/-! ### led: the law's and the program's -/
noncomputable def up : Str := ".."
noncomputable def stay : Str := "."
noncomputable def ledV : List Str → List Str → Option (List Str)
  | ws, [] => some ws
  | ws, x :: xs => if x = up then (if ws = [] then none else ledV ws.dropLast xs) else if x = stay then ledV ws xs else if ws.length < 6 then ledV (ws ++ [x]) xs else none
noncomputable def optPl : Option (List Str) → D
  | some ws => pl ws
  | none => .non
theorem getL {st : Sto} {xs : List D} {i : Nat} (h : st[i]? = some (.lst xs)) : itemsOf st (.res i) = some xs := by simp [itemsOf, seqL, h]
theorem len_res {st : Sto} {xs : List D} {i : Nat} (h : st[i]? = some (.lst xs)) : lenD [.res i] st = .ok (.int xs.length) st := by simp [lenD, getL h]
theorem at_last (st : Sto) (s : S) : (st ++ [s])[st.length]? = some s := by simp
/-! ### under, shared, steps, texts -/
noncomputable def cpl : List Str → List Str → Nat
  | x :: xs, y :: ys => if x = y then cpl xs ys + 1 else 0
  | _, _ => 0
noncomputable def stepsV (a b : List Str) : List Str := List.replicate (a.length - cpl a b) up ++ b.drop (cpl a b)
/-! ### texts -/
noncomputable def textV : List Str → Str
  | [] => ""
  | w :: ws => "/" ++ w ++ textV ws
theorem seq_nx {g g' : DS} {ρ ρ' : Ev} {st st' : Sto} (h : g ρ st = .nx ρ' st') : sSeq g g' ρ st = g' ρ' st' := by simp [h]
/-! ### a book -/
noncomputable abbrev Row := List Str × Int
noncomputable def rowD (r : Row) : D := .tup [pl r.1, .int r.2]
noncomputable def bk (m : Int) (i : Nat) (s : Int) : List (Str × D) := [("most", .int m), ("rows", .res i), ("spot", .int s)]
structure BookAt (cv : Nat → Addr) (st : Sto) (b i : Nat) (m : Int) (rows : List Row) (s : Nat) : Prop where
  ob : st[b]? = some (.ins (cv 0) (bk m i s))
  rw : st[i]? = some (.lst (rows.map rowD))
  lt : s < rows.length
  le : rows.length ≤ 100
/-- what a step of the book at b changes -/
structure Chg (st st' : Sto) (b i i' : Nat) : Prop where
  fr : ∀ j x, st[j]? = some x → j ≠ b → j ≠ i → st'[j]? = some x
  nw : i' = i ∨ st.length ≤ i'
  le : st.length ≤ st'.length
section
variable {cv : Nat → Addr} {st : Sto} {b i : Nat} {m : Int} {rows : List Row} {s : Nat}
theorem BookAt.ne (B : BookAt cv st b i m rows s) : b ≠ i := by
  intro e
  have h1 := B.ob
  rw [e, B.rw] at h1
  cases h1
theorem BookAt.ins (B : BookAt cv st b i m rows s) : insAt (cv 0) st (.res b) = some (b, bk m i s) := by
  simp [insAt, B.ob]
theorem BookAt.items (B : BookAt cv st b i m rows s) : itemsOf st (.res i) = some (rows.map rowD) := getL B.rw
theorem BookAt.ix (B : BookAt cv st b i m rows s) {k : Int} {j : Nat} {r : Row} (hk : k = j) (hr : rows[j]? = some r) : ixD (.res i) (.int k) st = .ok (rowD r) st := by
  subst hk
  have e : L2.atI (rows.map rowD) (j : Int) = some (rowD r) := atI_nat (by rw [List.getElem?_map, hr]; rfl)
  simp [ixD, B.items, e]
theorem BookAt.len (B : BookAt cv st b i m rows s) : lenD [.res i] st = .ok (.int rows.length) st := by
  have := len_res B.rw
  rw [List.length_map] at this
  exact this
noncomputable def visR (m : Int) (rows : List Row) (s : Nat) (p : List Str) : List Row := if ((rows.take (s + 1) ++ [(p, 0)]).length : Int) > m then (rows.take (s + 1) ++ [(p, 0)]).drop 1 else rows.take (s + 1) ++ [(p, 0)]
end
/-! ### loops and rows of statements that keep something -/
theorem run_rt {N n : Nat} {g : DS} {ds : List D} {st st' : Sto} {d : D} (hl : ds.length = n) (h : g (ds.map some ++ List.replicate (N - n) none) st = .rt d st') : runF N n g ds st = .ok d st' := by
  rw [z_runF, if_pos hl, h]
/-! ### a book is made, visited -/
section
variable {cv : Nat → Addr} {st : Sto} {b i : Nat} {m : Int} {rows : List Row} {s : Nat}
theorem BookAt.app (B : BookAt cv st b i m rows s) (t : Sto) : BookAt cv (st ++ t) b i m rows s :=
  ⟨by rw [List.getElem?_append_left (List.getElem?_eq_some_iff.mp B.ob).1]; exact B.ob, by rw [List.getElem?_append_left (List.getElem?_eq_some_iff.mp B.rw).1]; exact B.rw, B.lt, B.le⟩
end
theorem loop_off {chk : Sto → Prop} {t : TgD} {g : DS} (P : Nat → Ev → Sto → Prop) (hc : ∀ j ρ st, P j ρ st → chk st) : ∀ (xs : List D) (n : Nat), (∀ j x, xs[j]? = some x → ∀ ρ st, P (n + j) ρ st → ∃ ρ1 ρ2 st2, t x ρ = some ρ1 ∧ g ρ1 st = .nx ρ2 st2 ∧ P (n + j + 1) ρ2 st2) →
    ∀ ρ st, P n ρ st → ∃ ρ2 st2, loopD chk t g xs ρ st = .nx ρ2 st2 ∧ P (n + xs.length) ρ2 st2
  | [], n, _, ρ, st, h => ⟨ρ, st, loop_nil (hc n ρ st h), h⟩
  | x :: xs, n, hx, ρ, st, h => by
    obtain ⟨ρ1, ρ2, st2, e1, e2, h2⟩ := hx 0 x rfl ρ st h
    obtain ⟨ρ3, st3, e3, h3⟩ := loop_off P hc xs (n + 1) (fun j y hy ρ st hp => by
      have q : n + 1 + j = n + (j + 1) := by omega
      rw [q] at hp
      obtain ⟨r1, r2, s2, k1, k2, k3⟩ := hx (j + 1) y (by simpa using hy) ρ st hp
      exact ⟨r1, r2, s2, k1, k2, by rw [q]; exact k3⟩) ρ2 st2 h2
    refine ⟨ρ3, st3, (loop_nx (hc n ρ st h) e1 e2).trans e3, ?_⟩
    have q : n + (x :: xs).length = n + 1 + xs.length := by simp; omega
    rw [q]
    exact h3
/-- for over n things f 0, f 1, .. -/
theorem loop_rng {chk : Sto → Prop} {t : TgD} {g : DS} {f : Nat → D} (P : Nat → Ev → Sto → Prop) (hc : ∀ j ρ st, P j ρ st → chk st) (n : Nat) (step : ∀ j, j < n → ∀ ρ st, P j ρ st → ∃ ρ1 ρ2 st2, t (f j) ρ = some ρ1 ∧ g ρ1 st = .nx ρ2 st2 ∧ P (j + 1) ρ2 st2) (ρ : Ev) (st : Sto) (h : P 0 ρ st) :
    ∃ ρ2 st2, loopD chk t g ((List.range n).map f) ρ st = .nx ρ2 st2 ∧ P n ρ2 st2 := by
  obtain ⟨ρ2, st2, e, h2⟩ := loop_off P hc ((List.range n).map f) 0 (fun j x hx ρ st hp => by
    rw [Nat.zero_add] at hp ⊢
    have hj : j < n := by
      have := (List.getElem?_eq_some_iff.mp hx).1
      simpa using this
    rw [List.getElem?_map, List.getElem?_range hj] at hx
    simp only [Option.map_some, Option.some.injEq] at hx
    rw [← hx]
    exact step j hj ρ st hp) ρ st h
  refine ⟨ρ2, st2, e, ?_⟩
  simpa using h2
/-! ### a book beside a list of the store -/
structure BD (cv : Nat → Addr) (st : Sto) (b i u : Nat) (m : Int) (rows : List Row) (s : Nat) (ds : List D) : Prop where
  bk : BookAt cv st b i m rows s
  ub : u ≠ b
  ui : u ≠ i
  du : st[u]? = some (.lst ds)
section
variable {cv : Nat → Addr} {st st' : Sto} {b i i' u : Nat} {m : Int} {rows rows' : List Row} {s s' : Nat} {ds : List D}
theorem BD.step (X : BD cv st b i u m rows s ds) (C : Chg st st' b i i') (B : BookAt cv st' b i' m rows' s') : BD cv st' b i' u m rows' s' ds := by
  refine ⟨B, X.ub, ?_, C.fr _ _ X.du X.ub X.ui⟩
  have hu : u < st.length := (List.getElem?_eq_some_iff.mp X.du).1
  rcases C.nw with h | h
  · rw [h]; exact X.ui
  · omega
end
theorem ix_res {st : Sto} {ds : List D} {u : Nat} (h : st[u]? = some (.lst ds)) {k : Int} {j : Nat} {d : D} (hk : k = j) (hd : ds[j]? = some d) : ixD (.res u) (.int k) st = .ok d st := by
  subst hk
  have e : L2.atI ds (j : Int) = some d := atI_nat hd
  simp [ixD, getL h, e]
noncomputable def mks (rows : List Row) : List D := rows.map fun r => D.int r.2
theorem ixN_m1 {n : Nat} (h : 0 < n) : ixN n (-1) = some (n - 1) := by
  unfold ixN
  rw [if_neg (by omega), if_pos (by omega)]
  congr 1
  omega
/-! ### all that a book tells -/
noncomputable abbrev R0 : Row := ([], 0)
noncomputable def stD (rows : List Row) (s : Nat) : D := .tup [pl (rows.getD s R0).1, .lst (rows.map fun r => pl r.1), .int s]
/-! ### tests that come out false -/
theorem seq_go {g g' : DS} {ρ ρ' : Ev} {st st' : Sto} (h : g ρ st = .nx ρ' st') (h2 : ∃ st2, g' ρ' st' = .rt (.bl true) st2) : ∃ st2, sSeq g g' ρ st = .rt (.bl true) st2 := by
  obtain ⟨st2, e⟩ := h2
  exact ⟨st2, (seq_nx h).trans e⟩
theorem sif_no {t : DT} {g : DS} {ρ : Ev} {st st' : Sto} (h : t ρ st = .ok false st') : sIf t g sNext ρ st = .nx ρ st' := by simp [h]
theorem sif_t {t : DT} {g g' : DS} {ρ : Ev} {st st' : Sto} (h : t ρ st = .ok true st') : sIf t g g' ρ st = g ρ st' := by simp [h]
theorem ne_same {a : D} (h : nice depth a = true) (st : Sto) : neD a a st = .ok (.bl false) st := by
  rw [neD_nice h h]
  simp
theorem tst_ne {f f' : DE} {ρ : Ev} {st st1 st2 : Sto} {a : D} (h : nice depth a = true) (h1 : f ρ st = .ok a st1) (h2 : f' ρ st1 = .ok a st2) : dB (dBin neD f f') ρ st = .ok false st2 := by
  simp [h1, h2, ne_same h]
theorem tst_or {t t' : DT} {ρ : Ev} {st st1 st2 : Sto} (h : t ρ st = .ok false st1) (h' : t' ρ st1 = .ok false st2) : dOr t t' ρ st = .ok false st2 := by simp [h, h']
/-! ### panes -/
noncomputable abbrev PStep := Str × List Str × List Str
noncomputable def psD (s : PStep) : D := .tup [.str s.1, pl s.2.1, pl s.2.2]
noncomputable abbrev Sh := List (Str × List Str)
noncomputable def shD (x : Str × List Str) : D × D := (.str x.1, pl x.2)
noncomputable def valS : Sh → Str → Option (List Str)
  | [], _ => none
  | x :: r, n => if x.1 = n then some x.2 else valS r n
noncomputable def putS (sh : Sh) (n : Str) (p : List Str) : Sh := if (valS sh n).isSome = true then sh.map (fun x => if x.1 = n then (x.1, p) else x) else sh ++ [(n, p)]
theorem key_str (n m : Str) : (keyD (.str n) = keyD (.str m)) ↔ n = m := by
  simp [keyD]
theorem valS_D (n : Str) : ∀ sh : Sh, valD keyD (sh.map shD) (.str n) = (valS sh n).map pl
  | [] => rfl
  | x :: r => by
    rw [List.map_cons, valD, valS]
    by_cases e : x.1 = n
    · rw [if_pos (show keyD (shD x).1 = keyD (.str n) from (key_str _ _).mpr e), if_pos e]
      rfl
    · rw [if_neg (show ¬ keyD (shD x).1 = keyD (.str n) from fun h => e ((key_str _ _).mp h)), if_neg e]
      exact valS_D n r
theorem putS_D (sh : Sh) (n : Str) (p : List Str) : putD keyD (sh.map shD) (.str n) (pl p) = (putS sh n p).map shD := by
  unfold putD putS
  rw [valD_has, valS_D]
  cases h : valS sh n with
  | none => simp [shD]
  | some q =>
    simp only [Option.map_some, Option.isSome_some, if_true, List.map_map]
    refine List.map_congr_left fun x _ => ?_
    by_cases e : x.1 = n
    · have e' : keyD (shD x).1 = keyD (.str n) := (key_str _ _).mpr e
      simp [e, e']
      show ((D.str x.1 : D), pl p) = (.str n, pl p)
      rw [e]
    · have e' : ¬ keyD (shD x).1 = keyD (.str n) := fun h => e ((key_str _ _).mp h)
      simp [e, e']
theorem valS_map (n m : Str) (p : List Str) : ∀ sh : Sh, valS (sh.map fun x => if x.1 = n then (x.1, p) else x) m = (valS sh m).map fun y => if m = n then p else y
  | [] => rfl
  | x :: r => by
    rw [List.map_cons, valS, valS]
    by_cases e : x.1 = n
    · rw [if_pos e]
      by_cases e2 : x.1 = m
      · rw [if_pos e2, if_pos e2, Option.map_some, if_pos (e2.symm.trans e)]
      · rw [if_neg e2, if_neg e2]; exact valS_map n m p r
    · rw [if_neg e]
      by_cases e2 : x.1 = m
      · rw [if_pos e2, if_pos e2, Option.map_some, if_neg (fun h => e (e2.trans h))]
      · rw [if_neg e2, if_neg e2]; exact valS_map n m p r
theorem valS_snoc (n m : Str) (p : List Str) : ∀ sh : Sh, valS sh n = none → valS (sh ++ [(n, p)]) m = if m = n then some p else valS sh m
  | [], _ => by
    show (if n = m then some p else none) = _
    by_cases e : n = m
    · rw [if_pos e, if_pos e.symm]
    · rw [if_neg e, if_neg (Ne.symm e)]; rfl
  | x :: r, h => by
    rw [valS] at h
    by_cases e : x.1 = n
    · rw [if_pos e] at h; cases h
    · rw [if_neg e] at h
      rw [List.cons_append, valS, valS, valS_snoc n m p r h]
      by_cases e2 : x.1 = m
      · rw [if_pos e2, if_pos e2, if_neg (fun z => e (e2.trans z))]
      · rw [if_neg e2, if_neg e2]
theorem valS_put (sh : Sh) (n m : Str) (p : List Str) : valS (putS sh n p) m = if m = n then some p else valS sh m := by
  unfold putS
  cases h : valS sh n with
  | none => simp only [Option.isSome_none, Bool.false_eq_true, if_false]; exact valS_snoc n m p sh h
  | some q =>
    simp only [Option.isSome_some, if_true]
    rw [valS_map]
    by_cases e : m = n
    · rw [if_pos e, e, h, Option.map_some, if_pos rfl]
    · rw [if_neg e]
      cases valS sh m with
      | none => rfl
      | some y => rw [Option.map_some, if_neg e]
theorem valS_put_same (sh : Sh) (n : Str) (p : List Str) : valS (putS sh n p) n = some p := by rw [valS_put, if_pos rfl]
theorem valS_put_ne (sh : Sh) {n m : Str} (p : List Str) (h : m ≠ n) : valS (putS sh n p) m = valS sh m := by rw [valS_put, if_neg h]
theorem putS_len (sh : Sh) (n : Str) (p : List Str) : (putS sh n p).length ≤ sh.length + 1 := by
  unfold putS
  split <;> simp
theorem putS_len' {sh : Sh} {n : Str} {q : List Str} (p : List Str) (h : valS sh n = some q) : (putS sh n p).length = sh.length := by
  unfold putS
  simp [h]
noncomputable def pn (d i : Nat) (k : Int) : List (Str × D) := [("shown", .res d), ("row", .res i), ("made", .int k)]
theorem pn_shown (d i : Nat) (k : Int) : (pn d i k).lookup ("shown" : Str) = some (.res d) := rfl
theorem pn_row (d i : Nat) (k : Int) : (pn d i k).lookup ("row" : Str) = some (.res i) := rfl
theorem pn_made (d i : Nat) (k : Int) : (pn d i k).lookup ("made" : Str) = some (.int k) := rfl
theorem pn_add (d i : Nat) (k : Int) : (pn d i k).lookup ("add" : Str) = none := rfl
theorem pn_place (d i : Nat) (k : Int) : (pn d i k).lookup ("place" : Str) = none := rfl
theorem pn_visit (d i : Nat) (k : Int) : (pn d i k).lookup ("visit" : Str) = none := rfl
theorem pn_back (d i : Nat) (k : Int) : (pn d i k).lookup ("back" : Str) = none := rfl
theorem pn_forth (d i : Nat) (k : Int) : (pn d i k).lookup ("forth" : Str) = none := rfl
theorem pn_steps (d i : Nat) (k : Int) : (pn d i k).lookup ("steps" : Str) = none := rfl
theorem pn_done (d i : Nat) (k : Int) : (pn d i k).lookup ("done" : Str) = none := rfl
theorem pn_seen (d i : Nat) (k : Int) : (pn d i k).lookup ("seen" : Str) = none := rfl
theorem pn_check (d i : Nat) (k : Int) : (pn d i k).lookup ("check_name" : Str) = none := rfl
theorem pn_names (d i : Nat) (k : Int) : (pn d i k).lookup ("names" : Str) = none := rfl
theorem pn_close (d i : Nat) (k : Int) : (pn d i k).lookup ("close" : Str) = none := rfl
theorem pn_back_in (d i : Nat) (k : Int) : (pn d i k).lookup ("back_in" : Str) = none := rfl
theorem pn_put_row (d i j : Nat) (k : Int) : putFD ("row" : Str) (.res j) (pn d i k) = pn d j k := rfl
theorem pn_put_made (d i : Nat) (k l : Int) : putFD ("made" : Str) (.int l) (pn d i k) = pn d i l := rfl
theorem pn_len (d i : Nat) (k : Int) : (pn d i k).length < 900 := by show 3 < 900; decide
structure PanesAt (cv : Nat → Addr) (st : Sto) (b d i : Nat) (sh : Sh) (row : List PStep) (k : Nat) : Prop where
  ob : st[b]? = some (.ins (cv 3) (pn d i k))
  dc : st[d]? = some (.dct (sh.map shD))
  rw : st[i]? = some (.lst (row.map psD))
  le : k ≤ row.length
  rl : row.length ≤ 100
  sl : sh.length ≤ 100
/-- what a step of the panes at b changes -/
structure ChgP (st st' : Sto) (b d i i' : Nat) : Prop where
  fr : ∀ j x, st[j]? = some x → j ≠ b → j ≠ d → st'[j]? = some x
  nw : i' = i ∨ st.length ≤ i'
  le : st.length ≤ st'.length
theorem ChgP.refl (st : Sto) (b d i : Nat) : ChgP st st b d i i := ⟨fun _ _ h _ _ => h, .inl rfl, Nat.le_refl _⟩
theorem ChgP.trans {st st1 st2 : Sto} {b d i i1 i2 : Nat} (x : ChgP st st1 b d i i1) (y : ChgP st1 st2 b d i1 i2) : ChgP st st2 b d i i2 := by
  have h1 := x.le
  have h2 := y.le
  refine ⟨fun j z hz hb hd => y.fr j z (x.fr j z hz hb hd) hb hd, ?_, by omega⟩
  rcases y.nw with e | e
  · rw [e]; exact x.nw
  · exact .inr (by omega)
section
variable {cv : Nat → Addr} {st : Sto} {b d i : Nat} {sh : Sh} {row : List PStep} {k : Nat}
theorem PanesAt.bd (B : PanesAt cv st b d i sh row k) : b ≠ d := by
  intro e
  have h1 := B.ob
  rw [e, B.dc] at h1
  cases h1
theorem PanesAt.bi (B : PanesAt cv st b d i sh row k) : b ≠ i := by
  intro e
  have h1 := B.ob
  rw [e, B.rw] at h1
  cases h1
theorem PanesAt.di (B : PanesAt cv st b d i sh row k) : d ≠ i := by
  intro e
  have h1 := B.dc
  rw [e, B.rw] at h1
  cases h1
theorem PanesAt.ins (B : PanesAt cv st b d i sh row k) : insAt (cv 3) st (.res b) = some (b, pn d i k) := by
  simp [insAt, B.ob]
theorem PanesAt.items (B : PanesAt cv st b d i sh row k) : itemsOf st (.res i) = some (row.map psD) := getL B.rw
theorem PanesAt.look (B : PanesAt cv st b d i sh row k) (n : Str) : dAt st (.res d) (.str n) = some ((valS sh n).map pl) := by
  simp [dAt, B.dc, keyD, valS_D]
theorem PanesAt.put (B : PanesAt cv st b d i sh row k) (n : Str) (p : List Str) : dPutAt st (.res d) (.str n) (pl p) = some (st.set d (.dct ((putS sh n p).map shD))) := by
  have h : sh.length < small := by have := B.sl; exact Nat.lt_of_le_of_lt this (by decide)
  simp [dPutAt, B.dc, keyD, putS_D, h]
theorem PanesAt.setD (B : PanesAt cv st b d i sh row k) {sh' : Sh} (hl : sh'.length ≤ 100) : PanesAt cv (st.set d (.dct (sh'.map shD))) b d i sh' row k := by
  have hd : d < st.length := (List.getElem?_eq_some_iff.mp B.dc).1
  exact ⟨by rw [List.getElem?_set_ne (Ne.symm B.bd)]; exact B.ob, List.getElem?_set_self hd, by rw [List.getElem?_set_ne B.di]; exact B.rw, B.le, B.rl, hl⟩
theorem PanesAt.setK (B : PanesAt cv st b d i sh row k) {j : Nat} (hj : j ≤ row.length) : PanesAt cv (st.set b (.ins (cv 3) (pn d i j))) b d i sh row j := by
  have hb : b < st.length := (List.getElem?_eq_some_iff.mp B.ob).1
  exact ⟨List.getElem?_set_self hb, by rw [List.getElem?_set_ne B.bd]; exact B.dc, by rw [List.getElem?_set_ne B.bi]; exact B.rw, hj, B.rl, B.sl⟩
theorem PanesAt.check (B : PanesAt cv st b d i sh row k) {n : Str} {p : List Str} (h : valS sh n = some p) : FzPanes_check_name cv [.res b, .str n] st = .ok .non st := by
  have e1 := B.look n
  rw [h] at e1
  unfold FzPanes_check_name gzPanes_check_name
  simp [z_fld, B.ins, pn_shown, notInDd, e1]
theorem PanesAt.place (B : PanesAt cv st b d i sh row k) {n : Str} {p : List Str} (h : valS sh n = some p) : FzPanes_place cv [.res b, .str n] st = .ok (pl p) st := by
  have e1 := B.look n
  rw [h] at e1
  have e2 := B.check h
  unfold FzPanes_place gzPanes_place
  simp [z_meth, z_fld, B.ins, pn_shown, pn_check, z_getDd, e1, e2]
theorem chgP_d (st : Sto) (b d i : Nat) (x : S) : ChgP st (st.set d x) b d i i := ⟨fun j y h _ h1 => by rw [List.getElem?_set_ne (Ne.symm h1)]; exact h, .inl rfl, by simp⟩
theorem chgP_b (st : Sto) (b d i : Nat) (x : S) : ChgP st (st.set b x) b d i i := ⟨fun j y h h1 _ => by rw [List.getElem?_set_ne (Ne.symm h1)]; exact h, .inl rfl, by simp⟩
theorem PanesAt.add (B : PanesAt cv st b d i sh row k) {n : Str} (h : valS sh n = none) (hl : sh.length < 100) (p : List Str) : ∃ st', FzPanes_add cv [.res b, .str n, pl p] st = .ok .non st' ∧ PanesAt cv st' b d i (putS sh n p) row k ∧ ChgP st st' b d i i := by
  have e1 := B.look n
  rw [h] at e1
  have e2 := B.put n p
  refine ⟨_, ?_, B.setD (sh' := putS sh n p) (by have := putS_len sh n p; omega), chgP_d _ _ _ _ _⟩
  unfold FzPanes_add gzPanes_add
  simp [z_fld, B.ins, pn_shown, inDd, e1, z_sPutD, e2]
theorem PanesAt.steps (B : PanesAt cv st b d i sh row k) : FzPanes_steps cv [.res b] st = .ok (.lst (row.map psD)) st := by
  have e1 := B.items
  unfold FzPanes_steps gzPanes_steps
  simp [z_fld, B.ins, pn_row, listF, e1]
theorem PanesAt.done (B : PanesAt cv st b d i sh row k) : FzPanes_done cv [.res b] st = .ok (.int k) st := by
  unfold FzPanes_done gzPanes_done
  simp [z_fld, B.ins, pn_made]
theorem PanesAt.ix (B : PanesAt cv st b d i sh row k) {z : Int} {j : Nat} {s : PStep} (hk : z = j) (hr : row[j]? = some s) : ixD (.res i) (.int z) st = .ok (psD s) st := by
  subst hk
  have e : L2.atI (row.map psD) (j : Int) = some (psD s) := atI_nat (by rw [List.getElem?_map, hr]; rfl)
  simp [ixD, B.items, e]
theorem ps0 (s : PStep) (st : Sto) : ixD (psD s) (.int 0) st = .ok (.str s.1) st := rfl
theorem ps1 (s : PStep) (st : Sto) : ixD (psD s) (.int 1) st = .ok (pl s.2.1) st := rfl
theorem ps2 (s : PStep) (st : Sto) : ixD (psD s) (.int 2) st = .ok (pl s.2.2) st := rfl
theorem PanesAt.len (B : PanesAt cv st b d i sh row k) : lenD [.res i] st = .ok (.int row.length) st := by
  have := len_res B.rw
  rw [List.length_map] at this
  exact this
end
/-! ### panes: visit, back, forth, seen -/
theorem PanesAt.app {cv : Nat → Addr} {st : Sto} {b d i : Nat} {sh : Sh} {row : List PStep} {k : Nat} (B : PanesAt cv st b d i sh row k) (t : Sto) : PanesAt cv (st ++ t) b d i sh row k :=
  ⟨by rw [List.getElem?_append_left (List.getElem?_eq_some_iff.mp B.ob).1]; exact B.ob, by rw [List.getElem?_append_left (List.getElem?_eq_some_iff.mp B.dc).1]; exact B.dc,
   by rw [List.getElem?_append_left (List.getElem?_eq_some_iff.mp B.rw).1]; exact B.rw, B.le, B.rl, B.sl⟩
theorem chgP_app (st t : Sto) (b d i i' : Nat) (h : i' = i ∨ st.length ≤ i') : ChgP st (st ++ t) b d i i' :=
  ⟨fun j x hx _ _ => by rw [List.getElem?_append_left (List.getElem?_eq_some_iff.mp hx).1]; exact hx, h, by simp⟩
theorem PanesAt.visit {cv : Nat → Addr} {st : Sto} {b d i : Nat} {sh : Sh} {row : List PStep} {k : Nat} (B : PanesAt cv st b d i sh row k) {n : Str} {q : List Str} (h : valS sh n = some q) (hk : k < 100) (p : List Str) :
    ∃ st' i', FzPanes_visit cv [.res b, .str n, pl p] st = .ok .non st' ∧ PanesAt cv st' b d i' (putS sh n p) (row.take k ++ [(n, q, p)]) (k + 1) ∧ ChgP st st' b d i i' := by
  have hb : b < st.length := (List.getElem?_eq_some_iff.mp B.ob).1
  have hd : d < st.length := (List.getElem?_eq_some_iff.mp B.dc).1
  have hle := B.le
  obtain ⟨T, hT⟩ : ∃ T, T = (row.take k).map psD := ⟨_, rfl⟩
  obtain ⟨T2, hT2⟩ : ∃ T2, T2 = (row.take k ++ [(n, q, p)]).map psD := ⟨_, rfl⟩
  have e0 := B.place h
  have e1 : cutF (.res i) none (some (k : Int)) st = .ok T st := by
    rw [hT]
    simp only [cutF, seqL, B.rw, cutL_to, List.map_take]
  have e2 : catL (.lst T) (.lst [psD (n, q, p)]) st = .ok T2 st := by
    have hs : T.length + [psD (n, q, p)].length ≤ small := by
      rw [hT, List.length_map, List.length_take]
      exact small_ge (by simp; omega)
    simp only [catL, ownL, if_pos hs]
    rw [hT2, List.map_append, ← hT]
    rfl
  have q3 : (3 : Nat) ≤ small := by decide
  have q1 : (1 : Nat) ≤ small := by decide
  have et : D.tup [.str n, pl q, pl p] = psD (n, q, p) := rfl
  have B1 := B.app [S.lst T2]
  have len1 : (row.take k ++ [(n, q, p)]).length = k + 1 := by simp; omega
  -- with the new list
  have B2 : PanesAt cv ((st ++ [S.lst T2]).set b (.ins (cv 3) (pn d st.length k))) b d st.length sh (row.take k ++ [(n, q, p)]) k := by
    refine ⟨List.getElem?_set_self (by simp; omega), ?_, ?_, by omega, by omega, B.sl⟩
    · rw [List.getElem?_set_ne B.bd]; exact B1.dc
    · rw [List.getElem?_set_ne (by omega), ← hT2]; exact at_last _ _
  have B3 := B2.setK (j := k + 1) (by omega)
  have B4 := B3.setD (sh' := putS sh n p) (by rw [putS_len' p h]; exact B.sl)
  have e5 := B3.put n p
  refine ⟨_, _, ?_, B4, ?_⟩
  · refine (show FzPanes_visit cv [.res b, .str n, pl p] st = _ from ?_)
    unfold FzPanes_visit gzPanes_visit
    have i2 := B2.ins
    have i3 := B3.ins
    have ek : ((k : Int) + 1) = ((k + 1 : Nat) : Int) := by omega
    rw [← ek] at i3 e5
    simp [z_meth, z_fld, z_sFldF, z_sFldAdd, z_sPutD, B.ins, B1.ins, pn_place, pn_row, pn_made, pn_shown, e0, e1, e2, q3, q1, et, pn_len, pn_put_row, pn_put_made, i2, i3, e5, -List.set_set]
  · exact (chgP_app st [S.lst T2] b d i st.length (.inr (Nat.le_refl _))).trans ((chgP_b _ b d _ _).trans ((chgP_b _ b d _ _).trans (chgP_d _ b d _ _)))
section
variable {cv : Nat → Addr} {st : Sto} {b d i : Nat} {sh : Sh} {row : List PStep} {k : Nat}
theorem PanesAt.back (B : PanesAt cv st b d i sh row k) {j : Nat} {s : PStep} (hj : k = j + 1) (hs : row[j]? = some s) (hl : (putS sh s.1 s.2.1).length ≤ 100) :
    ∃ st', FzPanes_back cv [.res b] st = .ok (.str s.1) st' ∧ PanesAt cv st' b d i (putS sh s.1 s.2.1) row j ∧ ChgP st st' b d i i := by
  have hle := B.le
  have B1 := B.setK (j := j) (by omega)
  have e1 := B1.ix (z := (j : Int)) rfl hs
  have e2 := B1.put s.1 s.2.1
  have B2 := B1.setD hl
  refine ⟨_, ?_, B2, (chgP_b _ b d _ _).trans (chgP_d _ b d _ _)⟩
  have i1 := B1.ins
  have ek : ((k : Int) - 1) = (j : Int) := by omega
  have e0 : eqD (.int k) (.int 0) st = .ok (.bl false) st := by
    rw [eqD_nice rfl rfl]
    have : ¬ (D.int (k : Int) = D.int 0) := by rw [D.int.injEq]; omega
    simp [this]
  unfold FzPanes_back gzPanes_back
  simp [z_fld, z_sFldSub, B.ins, pn_made, e0, pn_len, pn_put_made, -List.set_set]
  rw [ek]
  simp [z_fld, i1, pn_row, pn_made, pn_shown, e1, z_sPutD, ps0, ps1, e2, -List.set_set]
theorem PanesAt.forth (B : PanesAt cv st b d i sh row k) {s : PStep} (hs : row[k]? = some s) (hl : (putS sh s.1 s.2.2).length ≤ 100) :
    ∃ st', FzPanes_forth cv [.res b] st = .ok (.str s.1) st' ∧ PanesAt cv st' b d i (putS sh s.1 s.2.2) row (k + 1) ∧ ChgP st st' b d i i := by
  have hk : k < row.length := (List.getElem?_eq_some_iff.mp hs).1
  have B1 := B.setK (j := k + 1) (by omega)
  have e1 := B.ix (z := (k : Int)) rfl hs
  have e2 := B1.put s.1 s.2.2
  have B2 := B1.setD hl
  refine ⟨_, ?_, B2, (chgP_b _ b d _ _).trans (chgP_d _ b d _ _)⟩
  have i1 := B1.ins
  have ek : ((k : Int) + 1) = ((k + 1 : Nat) : Int) := by omega
  have e0 : eqD (.int k) (.int row.length) st = .ok (.bl false) st := by
    rw [eqD_nice rfl rfl]
    have : ¬ (D.int (k : Int) = D.int row.length) := by rw [D.int.injEq]; omega
    simp [this]
  unfold FzPanes_forth gzPanes_forth
  rw [← ek] at i1 e2
  simp [z_fld, z_sFldAdd, B.ins, B.len, pn_made, pn_row, e0, e1, pn_len, pn_put_made, i1, pn_shown, z_sPutD, ps0, ps2, e2, -List.set_set]
end
/-! ### panes: seen, a new one -/
theorem compD_fm {α : Type} (g : α → D) (p : α → Bool) (h : α → D) {chk : Sto → Prop} {t : TgD} {cond : DT} {fe : DE} {st : Sto} (IE : Ev → Prop) (hc : chk st) : ∀ (xs : List α) (ρ : Ev) (acc : List D), IE ρ → acc.length + xs.length ≤ small →
    (∀ x ∈ xs, ∀ ρ, IE ρ → ∃ ρ1, t (g x) ρ = some ρ1 ∧ IE ρ1 ∧ cond ρ1 st = .ok (p x) st ∧ (p x = true → fe ρ1 st = .ok (h x) st)) → compD chk t cond fe (xs.map g) ρ st acc = .ok (acc ++ (xs.filter p).map h) st
  | [], ρ, acc, _, _, _ => by simp [compD, hc]
  | x :: xs, ρ, acc, hI, hl, hx => by
    obtain ⟨ρ1, e1, h1, e2, e3⟩ := hx x List.mem_cons_self ρ hI
    rw [List.map_cons]
    unfold compD
    rw [if_pos ⟨hc, by simp at hl; omega⟩, e1]
    dsimp only
    rw [e2]
    cases hp : p x with
    | true =>
      dsimp only
      rw [e3 hp]
      dsimp only
      rw [compD_fm g p h IE hc xs ρ1 (acc ++ [h x]) h1 (by simp at hl ⊢; omega) fun y hy => hx y (List.mem_cons_of_mem _ hy)]
      simp [hp]
    | false =>
      dsimp only
      rw [compD_fm g p h IE hc xs ρ1 acc h1 (by simp at hl ⊢; omega) fun y hy => hx y (List.mem_cons_of_mem _ hy)]
      simp [hp]
theorem compD_mm {α : Type} (g : α → D) (h : α → D) {chk : Sto → Prop} {t : TgD} {fe : DE} {st : Sto} (IE : Ev → Prop) (hc : chk st) (xs : List α) (ρ : Ev) (acc : List D) (hI : IE ρ) (hl : acc.length + xs.length ≤ small)
    (hx : ∀ x ∈ xs, ∀ ρ, IE ρ → ∃ ρ1, t (g x) ρ = some ρ1 ∧ IE ρ1 ∧ fe ρ1 st = .ok (h x) st) : compD chk t dTrue fe (xs.map g) ρ st acc = .ok (acc ++ xs.map h) st := by
  rw [compD_fm g (fun _ => true) h IE hc xs ρ acc hI hl fun x hm ρ hi => ?_]
  · rw [List.filter_eq_self.mpr fun _ _ => rfl]
  · obtain ⟨ρ1, e1, e2, e3⟩ := hx x hm ρ hi
    exact ⟨ρ1, e1, e2, rfl, fun _ => e3⟩
theorem eqS (x y : Str) (st : Sto) : eqD (.str x) (.str y) st = .ok (.bl (decide (x = y))) st := by
  rw [eqD_nice rfl rfl]
  congr 2
  exact decide_eq_decide.mpr (by rw [D.str.injEq])
theorem neS (x y : Str) (st : Sto) : neD (.str x) (.str y) st = .ok (.bl (!decide (x = y))) st := by
  rw [neD_nice rfl rfl]
  congr 3
  exact decide_eq_decide.mpr (by rw [D.str.injEq])
noncomputable def ownS (row : List PStep) (n : Str) : List PStep := row.filter fun s => decide (s.1 = n)
noncomputable def seenV (row : List PStep) (n : Str) (p : List Str) : List (List Str) := match ownS row n with
  | [] => [p]
  | s :: r => s.2.1 :: (s :: r).map fun x => x.2.2
theorem PanesAt.seen {cv : Nat → Addr} {st : Sto} {b d i : Nat} {sh : Sh} {row : List PStep} {k : Nat} (B : PanesAt cv st b d i sh row k) {n : Str} {p : List Str} (h : valS sh n = some p) :
    FzPanes_seen cv [.res b, .str n] st = .ok (.lst ((seenV row n p).map pl)) st := by
  have e0 := B.place h
  have e1 : compD (fun st => itemsOf st (.res i) = some (row.map psD)) (tgName 0) CzPanes_seen_1 EzPanes_seen_1 (row.map psD) [none, some (.str n)] st [] = .ok ((ownS row n).map psD) st := by
    rw [compD_fm psD (fun s => decide (s.1 = n)) psD (fun ρ => ∃ a, ρ = [a, some (.str n)]) B.items row _ [] ⟨_, rfl⟩ (by have := B.rl; simp; exact small_ge (by omega))]
    · rfl
    · rintro x hx ρ ⟨a, rfl⟩
      refine ⟨_, rfl, ⟨_, rfl⟩, ?_, fun _ => ?_⟩
      · unfold CzPanes_seen_1
        simp [ps0, eqS]
      · unfold EzPanes_seen_1
        rfl
  have hol : (ownS row n).length ≤ 100 := Nat.le_trans (List.length_filter_le _ _) B.rl
  have q1 : (1 : Nat) ≤ small := by decide
  unfold FzPanes_seen gzPanes_seen
  unfold seenV
  cases ho : ownS row n with
  | nil =>
    rw [ho] at e1
    have e2 : lenD [.lst []] st = .ok (.int 0) st := rfl
    have e3 : eqD (.int 0) (.int 0) st = .ok (.bl true) st := by rw [eqD_nice rfl rfl]; simp
    simp only [List.map_nil] at e1
    simp [z_meth, z_fld, B.ins, pn_place, pn_row, e0, B.items, capEv, e1, e2, e3, q1]
  | cons s r =>
    rw [ho] at e1 hol
    obtain ⟨T, hT⟩ : ∃ T, T = (s :: r).map psD := ⟨_, rfl⟩
    have e2 : lenD [.lst T] st = .ok (.int (r.length + 1 : Nat)) st := by
      show Out.ok (D.int (T.length : Nat)) st = _
      rw [hT]; simp
    have e3 : eqD (.int (r.length + 1 : Nat)) (.int 0) st = .ok (.bl false) st := by
      rw [eqD_nice rfl rfl]
      have : ¬ (D.int ((r.length + 1 : Nat) : Int) = D.int 0) := by rw [D.int.injEq]; omega
      simp only [this, decide_false]
    have e4 : ixD (.lst T) (.int 0) st = .ok (psD s) st := by
      have hx : L2.atI T ((0 : Nat) : Int) = some (psD s) := atI_nat (by rw [hT]; rfl)
      have hi0 : itemsOf st (.lst T) = some T := rfl
      simp only [Int.natCast_zero] at hx
      simp [ixD, hi0, hx]
    have e5 : compD (fun st => itemsOf st (.lst T) = some T) (tgName 0) dTrue EzPanes_seen_2 T [none] st [] = .ok ((s :: r).map fun x => pl x.2.2) st := by
      have hc : itemsOf st (.lst T) = some T := rfl
      have := compD_mm (chk := fun st => itemsOf st (.lst T) = some T) (t := tgName 0) (fe := EzPanes_seen_2) psD (fun x : PStep => pl x.2.2) (fun ρ => ∃ a, ρ = [a]) hc (s :: r) [none] [] ⟨_, rfl⟩ (by simp at hol ⊢; exact small_ge (by omega)) ?_
      · rw [← hT] at this; exact this
      · rintro x hx ρ ⟨a, rfl⟩
        refine ⟨_, rfl, ⟨_, rfl⟩, ?_⟩
        unfold EzPanes_seen_2
        simp [ps2]
    obtain ⟨T3, hT3⟩ : ∃ T3, T3 = (s :: r).map fun x : PStep => pl x.2.2 := ⟨_, rfl⟩
    have e6 : catL (.lst [pl s.2.1]) (.lst T3) st = .ok (pl s.2.1 :: T3) st := by
      have hs : [pl s.2.1].length + T3.length ≤ small := by
        rw [hT3, List.length_map]
        simp at hol ⊢
        exact small_ge (by omega)
      simp only [catL, ownL, if_pos hs]
      rfl
    rw [← hT] at e1
    rw [← hT3] at e5
    have hi : itemsOf st (.lst T) = some T := rfl
    have hr : (s.2.1 :: (s :: r).map fun x : PStep => x.2.2).map pl = pl s.2.1 :: T3 := by
      rw [hT3, List.map_cons, List.map_map]; rfl
    rw [hr]
    have ek : ((r.length + 1 : Nat) : Int) = (r.length : Int) + 1 := by omega
    rw [ek] at e2 e3
    simp [z_meth, z_fld, B.ins, pn_place, pn_row, e0, B.items, capEv, e1, e2, e3, e4, ps1, hi, e5, q1, e6]
theorem make_panes {cv : Nat → Addr} (st : Sto) : FzPanes___init__ cv [.res st.length] (st ++ [.ins (cv 3) []]) = .ok .non (st ++ [.ins (cv 3) (pn (st.length + 1) (st.length + 2) 0), .dct [], .lst []]) := by
  have i1 : ∀ fs, insAt (cv 3) (st ++ [.ins (cv 3) fs]) (.res st.length) = some (st.length, fs) := fun fs => by simp [insAt]
  have i2 : ∀ fs x, insAt (cv 3) (st ++ [.ins (cv 3) fs, x]) (.res st.length) = some (st.length, fs) := fun fs x => by simp [insAt]
  have i3 : ∀ fs x y, insAt (cv 3) (st ++ [.ins (cv 3) fs, x, y]) (.res st.length) = some (st.length, fs) := fun fs x y => by simp [insAt]
  have p1 : putFD ("shown" : Str) (.res (st.length + 1)) [] = [(("shown" : Str), D.res (st.length + 1))] := rfl
  have p2 : putFD ("row" : Str) (.res (st.length + 2)) [(("shown" : Str), D.res (st.length + 1))] = [(("shown" : Str), D.res (st.length + 1)), (("row" : Str), D.res (st.length + 2))] := rfl
  have p3 : putFD ("made" : Str) (.int 0) [(("shown" : Str), D.res (st.length + 1)), (("row" : Str), D.res (st.length + 2))] = pn (st.length + 1) (st.length + 2) 0 := rfl
  have q0 : (0 : Nat) ≤ small := by decide
  unfold FzPanes___init__ gzPanes___init__
  simp [z_sFldS, z_sFldF, i1, i2, i3, p1, p2, p3, q0]
theorem panes_new {cv : Nat → Addr} (st : Sto) : PanesAt cv (st ++ [.ins (cv 3) (pn (st.length + 1) (st.length + 2) 0), .dct [], .lst []]) st.length (st.length + 1) (st.length + 2) [] [] 0 :=
  ⟨by simp, by simp, by simp, Nat.le_refl _, Nat.zero_le _, Nat.zero_le _⟩
/-! ### panes p, q, r and what they show behind each step -/
noncomputable abbrev Sg := Str → List Str
noncomputable def updF (σ : Sg) (n : Str) (p : List Str) : Sg := fun m => if m = n then p else σ m
noncomputable def endS (σ : Sg) (R : List PStep) : Sg := R.foldl (fun σ s => updF σ s.1 s.2.2) σ
noncomputable abbrev N3 : List Str := ["p", "q", "r"]
noncomputable def ValR (N : List Str) : Sg → List PStep → Prop
  | _, [] => True
  | σ, s :: R => (s.1 ∈ N ∧ s.2.1 = σ s.1) ∧ ValR N (updF σ s.1 s.2.2) R
noncomputable def Sw (N : List Str) (sh : Sh) (σ : Sg) : Prop := ∀ n ∈ N, valS sh n = some (σ n)
theorem putS_keys {sh : Sh} {n : Str} {q : List Str} (p : List Str) (h : valS sh n = some q) : (putS sh n p).map (·.1) = sh.map (·.1) := by
  unfold putS
  simp only [h, Option.isSome_some, if_true, List.map_map]
  refine List.map_congr_left fun x _ => ?_
  by_cases e : x.1 = n
  · simp [e]
  · simp [e]
theorem valR_at {N : List Str} : ∀ {R : List PStep} {σ : Sg}, ValR N σ R → ∀ {j : Nat} {s : PStep}, R[j]? = some s → s.1 ∈ N ∧ s.2.1 = endS σ (R.take j) s.1
  | [], _, _, _, _, h => by simp at h
  | a :: R, σ, hv, 0, s, h => by
    cases h
    exact hv.1
  | a :: R, σ, hv, j + 1, s, h => by
    have := valR_at hv.2 (j := j) (s := s) (by simpa using h)
    exact this
theorem valR_take {N : List Str} : ∀ {R : List PStep} {σ : Sg}, ValR N σ R → ∀ j : Nat, ValR N σ (R.take j)
  | [], _, _, _ => by simp [ValR]
  | a :: R, σ, hv, 0 => trivial
  | a :: R, σ, hv, j + 1 => ⟨hv.1, valR_take hv.2 j⟩
theorem valR_snoc {N : List Str} : ∀ {R : List PStep} {σ : Sg} {s : PStep}, ValR N σ R → s.1 ∈ N → s.2.1 = endS σ R s.1 → ValR N σ (R ++ [s])
  | [], _, _, _, h1, h2 => ⟨⟨h1, h2⟩, trivial⟩
  | a :: R, σ, s, hv, h1, h2 => ⟨hv.1, valR_snoc hv.2 h1 h2⟩
theorem endS_snoc (σ : Sg) (R : List PStep) (s : PStep) : endS σ (R ++ [s]) = updF (endS σ R) s.1 s.2.2 := by
  unfold endS
  rw [List.foldl_append]
  rfl
theorem endS_succ (σ : Sg) {R : List PStep} {j : Nat} {s : PStep} (h : R[j]? = some s) : endS σ (R.take (j + 1)) = updF (endS σ (R.take j)) s.1 s.2.2 := by
  rw [List.take_succ, h]
  exact endS_snoc σ _ s
theorem sw_put {N : List Str} {sh : Sh} {σ : Sg} (h : Sw N sh σ) (n : Str) (p : List Str) : Sw N (putS sh n p) (updF σ n p) := by
  intro m hm
  unfold updF
  by_cases e : m = n
  · subst e
    rw [if_pos rfl, valS_put_same]
  · rw [if_neg e, valS_put_ne _ _ e]
    exact h m hm
theorem updF_back (σ : Sg) (n : Str) (p : List Str) : updF (updF σ n p) n (σ n) = σ := by
  funext m
  unfold updF
  by_cases e : m = n
  · subst e; simp
  · simp [e]
noncomputable def snD (σ : Sg) : D := .lst [pl (σ "p"), pl (σ "q"), pl (σ "r")]
theorem nice_sn (σ : Sg) : nice depth (snD σ) = true := by
  have h : ∀ ws, nice 49 (pl ws) = true := fun ws => nice_pl 47 ws
  show nice (49 + 1) (.lst [pl (σ "p"), pl (σ "q"), pl (σ "r")]) = true
  unfold nice niceL niceL niceL niceL
  rw [h, h, h]
  rfl
structure KP (N : List Str) (cv : Nat → Addr) (st : Sto) (b d i : Nat) (sh : Sh) (R : List PStep) (k : Nat) (σ : Sg) : Prop where
  P : PanesAt cv st b d i sh R k
  va : ValR N σ R
  sw : Sw N sh (endS σ (R.take k))
  sl : sh.length ≤ 3
  ks : sh.map (·.1) = N
theorem PanesAt.frame {cv : Nat → Addr} {st st' : Sto} {b d i : Nat} {sh : Sh} {row : List PStep} {k : Nat} (B : PanesAt cv st b d i sh row k) (h1 : ∀ x, st[b]? = some x → st'[b]? = some x) (h2 : ∀ x, st[d]? = some x → st'[d]? = some x) (h3 : ∀ x, st[i]? = some x → st'[i]? = some x) : PanesAt cv st' b d i sh row k :=
  ⟨h1 _ B.ob, h2 _ B.dc, h3 _ B.rw, B.le, B.rl, B.sl⟩
section
variable {cv : Nat → Addr} {st : Sto} {b d i : Nat} {sh : Sh} {R : List PStep} {k : Nat} {σ : Sg} {N : List Str}
theorem KP.frame (X : KP N cv st b d i sh R k σ) {st' : Sto} (h1 : ∀ x, st[b]? = some x → st'[b]? = some x) (h2 : ∀ x, st[d]? = some x → st'[d]? = some x) (h3 : ∀ x, st[i]? = some x → st'[i]? = some x) : KP N cv st' b d i sh R k σ :=
  ⟨X.P.frame h1 h2 h3, X.va, X.sw, X.sl, X.ks⟩
theorem KP.place (X : KP N cv st b d i sh R k σ) {n : Str} (hn : n ∈ N) : FzPanes_place cv [.res b, .str n] st = .ok (pl (endS σ (R.take k) n)) st := X.P.place (X.sw n hn)
theorem KP.back (X : KP N cv st b d i sh R k σ) {j : Nat} (hj : k = j + 1) : ∃ st' sh' s, R[j]? = some s ∧ FzPanes_back cv [.res b] st = .ok (.str s.1) st' ∧ KP N cv st' b d i sh' R j σ ∧ ChgP st st' b d i i := by
  have hle := X.P.le
  obtain ⟨s, hs⟩ : ∃ s, R[j]? = some s := ⟨_, List.getElem?_eq_getElem (by omega)⟩
  obtain ⟨h1, h2⟩ := valR_at X.va hs
  have hl : (putS sh s.1 s.2.1).length ≤ 3 := by rw [putS_len' _ (X.sw _ h1)]; exact X.sl
  obtain ⟨st', e, P', C⟩ := X.P.back hj hs (by omega)
  refine ⟨st', _, s, hs, e, ⟨P', X.va, ?_, hl, by rw [putS_keys _ (X.sw _ h1)]; exact X.ks⟩, C⟩
  have := sw_put X.sw s.1 s.2.1
  rw [hj, endS_succ σ hs, h2, updF_back] at this
  rw [h2]
  exact this
theorem KP.forth (X : KP N cv st b d i sh R k σ) {s : PStep} (hs : R[k]? = some s) : ∃ st' sh', FzPanes_forth cv [.res b] st = .ok (.str s.1) st' ∧ KP N cv st' b d i sh' R (k + 1) σ ∧ ChgP st st' b d i i := by
  obtain ⟨h1, h2⟩ := valR_at X.va hs
  have hl : (putS sh s.1 s.2.2).length ≤ 3 := by rw [putS_len' _ (X.sw _ h1)]; exact X.sl
  obtain ⟨st', e, P', C⟩ := X.P.forth hs (by omega)
  refine ⟨st', _, e, ⟨P', X.va, ?_, hl, by rw [putS_keys _ (X.sw _ h1)]; exact X.ks⟩, C⟩
  have := sw_put X.sw s.1 s.2.2
  rw [endS_succ σ hs]
  exact this
theorem take_snoc {R : List PStep} {k : Nat} (h : k ≤ R.length) (s : PStep) : (R.take k ++ [s]).take (k + 1) = R.take k ++ [s] := by
  apply List.take_of_length_le
  simp
  omega
theorem KP.visit (X : KP N cv st b d i sh R k σ) {n : Str} (hn : n ∈ N) (hk : k < 100) (p : List Str) : ∃ st' i' sh', FzPanes_visit cv [.res b, .str n, pl p] st = .ok .non st' ∧
    KP N cv st' b d i' sh' (R.take k ++ [(n, endS σ (R.take k) n, p)]) (k + 1) σ ∧ ChgP st st' b d i i' := by
  obtain ⟨st', i', e, P', C⟩ := X.P.visit (X.sw n hn) hk p
  refine ⟨st', i', _, e, ⟨P', valR_snoc (valR_take X.va k) hn rfl, ?_, by rw [putS_len' _ (X.sw n hn)]; exact X.sl, by rw [putS_keys _ (X.sw n hn)]; exact X.ks⟩, C⟩
  rw [take_snoc X.P.le, endS_snoc]
  exact sw_put X.sw n p
theorem KP.snap (X : KP N cv st b d i sh R k σ) {NL : List D} (hN : NL = N.map D.str) : compD (fun st => itemsOf st (.lst NL) = some NL) (tgName 0) dTrue (dMeth (cv 3) "place" (FzPanes_place cv) (dVar 1) (dCons (dVar 0) dNil)) NL [none, some (.res b)] st [] = .ok (N.map fun n => pl (endS σ (R.take k) n)) st := by
  subst hN
  have hc : itemsOf st (.lst (N.map D.str)) = some (N.map D.str) := rfl
  refine compD_mm (chk := fun st => itemsOf st (.lst (N.map D.str)) = some (N.map D.str)) D.str (fun n => pl (endS σ (R.take k) n)) (fun ρ => ∃ a, ρ = [a, some (.res b)]) hc N [none, some (.res b)] [] ⟨_, rfl⟩ (by have := X.sl; have h2 := congrArg List.length X.ks; rw [List.length_map] at h2; simp; exact small_ge (by omega)) ?_
  rintro x hx ρ ⟨a, rfl⟩
  refine ⟨_, rfl, ⟨_, rfl⟩, ?_⟩
  have e := X.place hx
  simp [z_meth, X.P.ins, pn_place, e]
end
/-! what a pane's own steps link -/
noncomputable def Link : List Str → List PStep → List Str → Prop
  | a, [], z => a = z
  | a, s :: L, z => s.2.1 = a ∧ Link s.2.2 L z
/-! ### the panes that the law builds -/
noncomputable def nmV (ns : List Int) (a : Int) (k : Nat) : Str := N3.getD (drawnV ns (a + 21 + 7 * (k : Int)) 3).toNat "p"
theorem nmV_mem (ns : List Int) (a : Int) (k : Nat) : nmV ns a k ∈ N3 := by
  have h1 := drawn_lo ns (a + 21 + 7 * (k : Int)) 3 (by decide)
  have h2 := drawn_hi ns (a + 21 + 7 * (k : Int)) 3 (by decide)
  unfold nmV
  have : (drawnV ns (a + 21 + 7 * (k : Int)) 3).toNat = 0 ∨ (drawnV ns (a + 21 + 7 * (k : Int)) 3).toNat = 1 ∨ (drawnV ns (a + 21 + 7 * (k : Int)) 3).toNat = 2 := by omega
  rcases this with e | e | e <;> rw [e] <;> simp [N3]
noncomputable def sg0 (ns : List Int) (a : Int) : Sg := fun n => if n = "p" then placeV ns (a + 6 * 0) else if n = "q" then placeV ns (a + 6 * 1) else placeV ns (a + 6 * 2)
noncomputable def stpV (ns : List Int) (a : Int) : Nat → List PStep
  | 0 => []
  | j + 1 => stpV ns a j ++ [(nmV ns a j, endS (sg0 ns a) (stpV ns a j) (nmV ns a j), placeV ns (a + 22 + 7 * (j : Int)))]
theorem stpV_len (ns : List Int) (a : Int) : ∀ j, (stpV ns a j).length = j
  | 0 => rfl
  | j + 1 => by simp [stpV, stpV_len ns a j]
noncomputable def nV (ns : List Int) (a : Int) : Nat := (drawnV ns (a + 20) 9).toNat
noncomputable def mV (ns : List Int) (a : Int) : Nat := (drawnV ns (a + 90) ((nV ns a + 1 : Nat) : Int)).toNat
theorem nV_le (ns : List Int) (a : Int) : nV ns a ≤ 8 := by
  have h1 := drawn_lo ns (a + 20) 9 (by decide)
  have h2 := drawn_hi ns (a + 20) 9 (by decide)
  unfold nV
  omega
theorem mV_le (ns : List Int) (a : Int) : mV ns a ≤ nV ns a := by
  have h1 := drawn_lo ns (a + 90) ((nV ns a + 1 : Nat) : Int) (by omega)
  have h2 := drawn_hi ns (a + 90) ((nV ns a + 1 : Nat) : Int) (by omega)
  unfold mV
  omega
noncomputable def RV (ns : List Int) (a : Int) : List PStep := stpV ns a (nV ns a)
noncomputable def kV0 (ns : List Int) (a : Int) : Nat := nV ns a - mV ns a
noncomputable def fL (σ : Sg) (R : List PStep) : List D := (List.range (R.length + 1)).map fun j => snD (endS σ (R.take j))
theorem fL_snoc (σ : Sg) (R : List PStep) (s : PStep) : fL σ (R ++ [s]) = fL σ R ++ [snD (endS σ (R ++ [s]))] := by
  unfold fL
  rw [List.length_append, List.length_singleton, List.range_succ, List.map_append]
  congr 1
  · refine List.map_congr_left fun j hj => ?_
    rw [List.mem_range] at hj
    rw [List.take_append_of_le_length (by omega)]
  · simp only [List.map_cons, List.map_nil]
    rw [List.take_of_length_le (by simp)]
theorem fL_len (σ : Sg) (R : List PStep) : (fL σ R).length = R.length + 1 := by simp [fL]
theorem fL_at (σ : Sg) (R : List PStep) {j : Nat} (h : j ≤ R.length) : (fL σ R)[j]? = some (snD (endS σ (R.take j))) := by
  unfold fL
  rw [List.getElem?_map, List.getElem?_range (by omega)]
  rfl
theorem append_ok {fo fa : DE} {ρ : Ev} {st : Sto} {u : Nat} {xs : List D} {v : D} (h1 : fo ρ st = .ok (.res u) st) (h2 : st[u]? = some (.lst xs)) (h3 : fa ρ st = .ok v st) (hl : xs.length < small) : dAppend fo fa ρ st = .ok .non (st.set u (.lst (xs ++ [v]))) := by
  unfold dAppend
  simp [h1, h2, h3, hl]
theorem ix_N3 (NL : List D) (hN : NL = N3.map D.str) (i : Int) (h0 : 0 ≤ i) (h1 : i < 3) (st : Sto) : ixD (.lst NL) (.int i) st = .ok (.str (N3.getD i.toNat "p")) st := by
  subst hN
  have : i = 0 ∨ i = 1 ∨ i = 2 := by omega
  rcases this with rfl | rfl | rfl <;> rfl
theorem rq : ("r" : Str) ≠ ("q" : Str) := by decide +kernel
theorem rp : ("r" : Str) ≠ ("p" : Str) := by decide +kernel
theorem qp : ("q" : Str) ≠ ("p" : Str) := by decide +kernel
theorem two_ne' {st : Sto} {i j : Nat} {x y : S} (h1 : st[i]? = some x) (h2 : st[j]? = some y) (h : x ≠ y) : i ≠ j := by
  rintro rfl
  rw [h1] at h2
  exact h (Option.some.inj h2)
theorem runX_rt {N n : Nat} {g : DS} {ds : List D} {st st' : Sto} {d : D} (hl : ds.length = n) (h : g (ds.map some ++ List.replicate (N - n) none) st = .rt d st') : runX N n g ds st = .ok d st' := by
  rw [z_runX, if_pos hl, h]
noncomputable abbrev EP (ns : List Int) (a : Int) (b : Nat) (NL : List D) (c4 c5 c6 : Option D) : Ev := [some (.scr (ns.map .int)), some (.int a), some (.res b), some (.lst NL), c4, c5, c6]
theorem panes_eq (cv : Nat → Addr) (ns : List Int) (hl : ns.length ≤ 63) (a : Int) {st : Sto} {b d i : Nat} (P0 : PanesAt cv st b d i [] [] 0) :
    ∃ st' i' u sh, Fz_law_panes cv [.scr (ns.map .int), .int a, .res b] st = .ok (.res u) st' ∧ KP N3 cv st' b d i' sh (RV ns a) (kV0 ns a) (sg0 ns a) ∧ st'[u]? = some (.lst (fL (sg0 ns a) (RV ns a))) ∧ u ≠ i' ∧
      st.length ≤ u ∧ (∀ j x, st[j]? = some x → j ≠ b → j ≠ d → st'[j]? = some x) ∧ (i' = i ∨ st.length ≤ i') := by
  obtain ⟨NL, hN⟩ : ∃ NL, NL = N3.map D.str := ⟨_, rfl⟩
  have q3 : (3 : Nat) ≤ small := by decide
  have q1 : (1 : Nat) ≤ small := by decide
  -- p2: the three panes
  have pp : ∀ (x : Int) (st : Sto), Fz_law_place [.scr (ns.map .int), .int x] st = .ok (pl (placeV ns x)) st := fun x st => place_eq ns hl x st
  have m6 : ∀ (x : Int) (st : Sto), mul2D (.int 6) (.int x) st = .ok (.int (6 * x)) st := fun x st => mul2_int 6 x st (mulOk_l 6 x (by decide) (by decide))
  have m7 : ∀ (x : Int) (st : Sto), mul2D (.int 7) (.int x) st = .ok (.int (7 * x)) st := fun x st => mul2_int 7 x st (mulOk_l 7 x (by decide) (by decide))
  obtain ⟨st1, e1, P1, C1⟩ := P0.add (n := "p") rfl (by decide) (placeV ns (a + 6 * 0))
  have hq : valS (putS [] "p" (placeV ns (a + 6 * 0))) "q" = none := by rw [valS_put_ne _ _ qp]; rfl
  obtain ⟨st2, e2, P2, C2⟩ := P1.add (n := "q") hq (by have := putS_len [] "p" (placeV ns (a + 6 * 0)); rw [List.length_nil] at this; omega) (placeV ns (a + 6 * 1))
  have hr : valS (putS (putS [] "p" (placeV ns (a + 6 * 0))) "q" (placeV ns (a + 6 * 1))) "r" = none := by rw [valS_put_ne _ _ rq, valS_put_ne _ _ rp]; rfl
  have hl2 : (putS (putS [] "p" (placeV ns (a + 6 * 0))) "q" (placeV ns (a + 6 * 1))).length ≤ 2 := by
    have h1 := putS_len [] "p" (placeV ns (a + 6 * 0))
    have h2 := putS_len (putS [] "p" (placeV ns (a + 6 * 0))) "q" (placeV ns (a + 6 * 1))
    rw [List.length_nil] at h1
    omega
  obtain ⟨st3, e3, P3, C3⟩ := P2.add (n := "r") hr (by omega) (placeV ns (a + 6 * 2))
  have K3 : KP N3 cv st3 b d i (putS (putS (putS [] "p" (placeV ns (a + 6 * 0))) "q" (placeV ns (a + 6 * 1))) "r" (placeV ns (a + 6 * 2))) (stpV ns a 0) 0 (sg0 ns a) := by
    refine ⟨P3, trivial, ?_, ?_, rfl⟩
    · intro n hn
      show _ = some (sg0 ns a n)
      simp only [N3, List.mem_cons, List.not_mem_nil, or_false] at hn
      rcases hn with rfl | rfl | rfl
      · rw [valS_put_ne _ _ (Ne.symm rp), valS_put_ne _ _ (Ne.symm qp), valS_put_same]
        rfl
      · rw [valS_put_ne _ _ (Ne.symm rq), valS_put_same]
        unfold sg0
        rw [if_neg qp, if_pos rfl]
      · rw [valS_put_same]
        unfold sg0
        rw [if_neg rp, if_neg rq]
    · have := putS_len (putS (putS [] "p" (placeV ns (a + 6 * 0))) "q" (placeV ns (a + 6 * 1))) "r" (placeV ns (a + 6 * 2))
      omega
  have C03 := (C1.trans C2).trans C3
  have step1 : Pz_law_panes_p2 cv (EP ns a b NL none none none) st = .nx (EP ns a b NL (some (.int 2)) (some (.str "r")) none) st3 := by
    have t1 : ∀ (ρ : Ev) (st0 st0' : Sto) (x : Int) (n : Str) (fs : List (Str × D)), insAt (cv 3) st0 (.res b) = some (b, fs) → fs.lookup ("add" : Str) = none → FzPanes_add cv [.res b, .str n, pl (placeV ns (a + 6 * x))] st0 = .ok .non st0' →
        Bz_law_panes_1 cv (EP ns a b NL (some (.int x)) (some (.str n)) none) st0 = .nx (EP ns a b NL (some (.int x)) (some (.str n)) none) st0' := by
      intro ρ st0 st0' x n fs hi hf he
      unfold Bz_law_panes_1
      simp [z_meth, hi, hf, m6, addD_int, pp, he]
    have sq : seqL st (.lst NL) = some NL := rfl
    unfold Pz_law_panes_p2
    rw [z_sFor]
    simp only [dEnum, z_var, List.getElem?_cons_succ, List.getElem?_cons_zero, z_bind_ok, sq, z_to_ok]
    have hE : enumL 0 NL = [.tup [.int 0, .str "p"], .tup [.int 1, .str "q"], .tup [.int 2, .str "r"]] := by rw [hN]; rfl
    have hchk : ∀ s : Sto, seqL s (.lst NL) = some NL := fun s => rfl
    rw [hE]
    refine (loop_nx (ρ1 := EP ns a b NL (some (.int 0)) (some (.str "p")) none) (hchk _) rfl (t1 [] _ _ 0 "p" _ P0.ins (pn_add _ _ _) e1)).trans ?_
    refine (loop_nx (ρ1 := EP ns a b NL (some (.int 1)) (some (.str "q")) none) (hchk _) rfl (t1 [] _ _ 1 "q" _ P1.ins (pn_add _ _ _) e2)).trans ?_
    refine (loop_nx (ρ1 := EP ns a b NL (some (.int 2)) (some (.str "r")) none) (hchk _) rfl (t1 [] _ _ 2 "r" _ P2.ins (pn_add _ _ _) e3)).trans ?_
    exact loop_nil (hchk _)
  -- p3: the first snapshot
  have sn3 := K3.snap hN
  have itN : ∀ s : Sto, itemsOf s (.lst NL) = some NL := fun s => rfl
  have step2 : Pz_law_panes_p3 cv (EP ns a b NL (some (.int 2)) (some (.str "r")) none) st3 = .nx (EP ns a b NL (some (.int 2)) (some (.str "r")) (some (.res st3.length))) (st3 ++ [.lst (fL (sg0 ns a) (stpV ns a 0))]) := by
    unfold Pz_law_panes_p3 Ez_law_panes_1
    simp [itN st3, capEv, sn3, q1]
    rfl
  have hst3 : st.length ≤ st3.length := C03.le
  have K4 : KP N3 cv (st3 ++ [.lst (fL (sg0 ns a) (stpV ns a 0))]) b d i _ (stpV ns a 0) 0 (sg0 ns a) := ⟨K3.P.app _, K3.va, K3.sw, K3.sl, K3.ks⟩
  have hui : st3.length ≠ i := by
    have := (List.getElem?_eq_some_iff.mp K3.P.rw).1
    omega
  have hu4 : (st3 ++ [S.lst (fL (sg0 ns a) (stpV ns a 0))])[st3.length]? = some (.lst (fL (sg0 ns a) (stpV ns a 0))) := at_last _ _
  have fr4 : ∀ j x, st[j]? = some x → j ≠ b → j ≠ d → (st3 ++ [S.lst (fL (sg0 ns a) (stpV ns a 0))])[j]? = some x := fun j x hx h1 h2 => by
    have := C03.fr j x hx h1 h2
    rw [List.getElem?_append_left (List.getElem?_eq_some_iff.mp this).1]
    exact this
  obtain ⟨u, hu⟩ : ∃ u, u = st3.length := ⟨_, rfl⟩
  rw [← hu] at step2 hui hu4 hst3
  have hl4 : st.length ≤ (st3 ++ [S.lst (fL (sg0 ns a) (stpV ns a 0))]).length := by simp; omega
  generalize st3 ++ [S.lst (fL (sg0 ns a) (stpV ns a 0))] = st4 at *
  -- p4: the visits
  have dn := drawn_eq ns hl (a + 20) 9 (by decide) st4
  have hn8 := nV_le ns a
  have hnI : drawnV ns (a + 20) 9 = (nV ns a : Int) := by
    have := drawn_lo ns (a + 20) 9 (by decide)
    unfold nV
    omega
  have g1 : rngOk (nV ns a : Int) = true := rngOk_of (by omega) (by omega)
  rw [hnI] at dn
  obtain ⟨ρ5, st5, f5, ⟨c4, c5, rfl, i5, sh5, K5, hu5, hui5, fr5, nw5, le5⟩⟩ := loop_rng (chk := fun _ => True) (t := tgName 4) (g := Bz_law_panes_2 cv) (f := fun (i : Nat) => D.int (0 + i))
    (fun j ρ s => ∃ c4 c5, ρ = EP ns a b NL c4 c5 (some (.res u)) ∧ ∃ i' sh', KP N3 cv s b d i' sh' (stpV ns a j) j (sg0 ns a) ∧ s[u]? = some (.lst (fL (sg0 ns a) (stpV ns a j))) ∧ u ≠ i' ∧
      (∀ l x, st[l]? = some x → l ≠ b → l ≠ d → s[l]? = some x) ∧ (i' = i ∨ st.length ≤ i') ∧ st.length ≤ s.length) (fun _ _ _ _ => trivial) (nV ns a)
    (by
      rintro j hj ρ s ⟨c4, c5, rfl, i', sh', K, hus, hui', fr, nw, le⟩
      have ee : a + 21 + 7 * (j : Int) = a + 21 + 7 * (j : Int) := rfl
      have d1 := drawn_lo ns (a + 21 + 7 * (j : Int)) 3 (by decide)
      have d2 := drawn_hi ns (a + 21 + 7 * (j : Int)) 3 (by decide)
      have de := drawn_eq ns hl (a + 21 + 7 * (j : Int)) 3 (by decide) s
      have ix := ix_N3 NL hN _ d1 d2 s
      obtain ⟨n, hn⟩ : ∃ n, n = nmV ns a j := ⟨_, rfl⟩
      have ix' : ixD (.lst NL) (.int (drawnV ns (a + 21 + 7 * (j : Int)) 3)) s = .ok (.str n) s := by rw [ix, hn]; rfl
      have hmem : n ∈ N3 := by rw [hn]; exact nmV_mem ns a j
      obtain ⟨s1, i1, sh1, ev, K1, Cv⟩ := K.visit hmem (by omega) (placeV ns (a + 22 + 7 * (j : Int)))
      have htk : (stpV ns a j).take j = stpV ns a j := List.take_of_length_le (by rw [stpV_len]; omega)
      rw [htk] at K1
      have hst : stpV ns a j ++ [(n, endS (sg0 ns a) (stpV ns a j) n, placeV ns (a + 22 + 7 * (j : Int)))] = stpV ns a (j + 1) := by rw [hn]; rfl
      rw [hst] at K1
      have hub : u ≠ b := two_ne' hus K.P.ob (by intro h; cases h)
      have hud : u ≠ d := two_ne' hus K.P.dc (by intro h; cases h)
      have hus1 := Cv.fr u _ hus hub hud
      have hul : u < s.length := (List.getElem?_eq_some_iff.mp hus).1
      have hui1 : u ≠ i1 := by
        rcases Cv.nw with e | e
        · rw [e]; exact hui'
        · omega
      have sn := K1.snap hN
      have hfl : fL (sg0 ns a) (stpV ns a j) ++ [snD (endS (sg0 ns a) (stpV ns a (j + 1)))] = fL (sg0 ns a) (stpV ns a (j + 1)) := by rw [← hst, ← fL_snoc]
      have hlen : (fL (sg0 ns a) (stpV ns a j)).length < small := by
        rw [fL_len, stpV_len]
        exact Nat.lt_of_lt_of_le (by omega : j + 1 < 20) (small_ge (by decide))
      have htk2 : (stpV ns a (j + 1)).take (j + 1) = stpV ns a (j + 1) := List.take_of_length_le (by rw [stpV_len]; omega)
      rw [htk2] at sn
      have hu2 : (s1.set u (.lst (fL (sg0 ns a) (stpV ns a (j + 1)))))[u]? = some (.lst (fL (sg0 ns a) (stpV ns a (j + 1)))) := List.getElem?_set_self (by have := Cv.le; omega)
      refine ⟨EP ns a b NL (some (.int j)) c5 (some (.res u)), EP ns a b NL (some (.int j)) (some (.str n)) (some (.res u)), s1.set u (.lst (fL (sg0 ns a) (stpV ns a (j + 1)))), ?_, ?_, some (.int j), some (.str n), rfl, i1, sh1, ?_, hu2, hui1, ?_, ?_, ?_⟩
      · rw [Int.zero_add]; rfl
      · unfold Bz_law_panes_2 Ez_law_panes_2
        refine (seq_nx (st' := s) (ρ' := EP ns a b NL (some (.int j)) (some (.str n)) (some (.res u))) ?_).trans ?_
        · simp [m7, addD_int, de, ix']
        refine (seq_nx (st' := s1) (ρ' := EP ns a b NL (some (.int j)) (some (.str n)) (some (.res u))) ?_).trans ?_
        · simp [z_meth, K.P.ins, pn_visit, m7, addD_int, pp, ev]
        have := append_ok (fo := dVar 6) (fa := dF (dComp [2] 1 (dSeq (dVar 3)) (tgName 0) dTrue (dMeth (cv 3) "place" (FzPanes_place cv) (dVar 1) (dCons (dVar 0) dNil)))) (ρ := EP ns a b NL (some (.int j)) (some (.str n)) (some (.res u))) (st := s1) (v := snD (endS (sg0 ns a) (stpV ns a (j + 1)))) rfl hus1 (by simp [itN s1, capEv, sn]; rfl) hlen
        rw [hfl] at this
        rw [z_sExpr, this]
        rfl
      · refine K1.frame (fun x hx => ?_) (fun x hx => ?_) (fun x hx => ?_)
        · rw [List.getElem?_set_ne hub]; exact hx
        · rw [List.getElem?_set_ne hud]; exact hx
        · rw [List.getElem?_set_ne hui1]; exact hx
      · intro l x hx h1 h2
        have hlt : l < st.length := (List.getElem?_eq_some_iff.mp hx).1
        rw [List.getElem?_set_ne (by omega)]
        exact Cv.fr l x (fr l x hx h1 h2) h1 h2
      · rcases Cv.nw with e | e
        · rw [e]; exact nw
        · exact .inr (by omega)
      · rw [List.length_set]; have := Cv.le; omega) (EP ns a b NL (some (.int 2)) (some (.str "r")) (some (.res u))) st4 ⟨_, _, rfl, i, _, K4, hu4, hui, fr4, .inl rfl, hl4⟩
  have step3 : Pz_law_panes_p4 cv (EP ns a b NL (some (.int 2)) (some (.str "r")) (some (.res u))) st4 = .nx (EP ns a b NL c4 c5 (some (.res u))) st5 := by
    unfold Pz_law_panes_p4
    simp [addD_int, dn, dRng1, g1] at f5 ⊢
    exact f5
  -- p5: steps back
  have lenF := len_res hu5
  rw [fL_len, stpV_len] at lenF
  have dm := drawn_eq ns hl (a + 90) ((nV ns a + 1 : Nat) : Int) (by omega) st5
  have hmI : drawnV ns (a + 90) ((nV ns a + 1 : Nat) : Int) = (mV ns a : Int) := by
    have := drawn_lo ns (a + 90) ((nV ns a + 1 : Nat) : Int) (by omega)
    unfold mV
    omega
  have hmle := mV_le ns a
  rw [hmI] at dm
  have g2 : rngOk (mV ns a : Int) = true := rngOk_of (by omega) (by omega)
  obtain ⟨ρ6, st6, f6, ⟨c4', rfl, sh6, K6, hu6, fr6⟩⟩ := loop_rng (chk := fun _ => True) (t := tgName 4) (g := Bz_law_panes_3 cv) (f := fun (i : Nat) => D.int (0 + i))
    (fun j ρ s => ∃ c4, ρ = EP ns a b NL c4 c5 (some (.res u)) ∧ ∃ sh', KP N3 cv s b d i5 sh' (stpV ns a (nV ns a)) (nV ns a - j) (sg0 ns a) ∧ s[u]? = some (.lst (fL (sg0 ns a) (stpV ns a (nV ns a)))) ∧
      (∀ l x, st[l]? = some x → l ≠ b → l ≠ d → s[l]? = some x)) (fun _ _ _ _ => trivial) (mV ns a)
    (by
      rintro j hj ρ s ⟨c4, rfl, sh', K, hus, fr⟩
      obtain ⟨s1, sh1, x, hx, eb, K1, C⟩ := K.back (j := nV ns a - (j + 1)) (by omega)
      refine ⟨EP ns a b NL (some (.int j)) c5 (some (.res u)), EP ns a b NL (some (.int j)) c5 (some (.res u)), s1, ?_, ?_, some (.int j), rfl, sh1, K1, ?_, fun l x hx h1 h2 => C.fr l x (fr l x hx h1 h2) h1 h2⟩
      · rw [Int.zero_add]; rfl
      · unfold Bz_law_panes_3
        simp [z_meth, K.P.ins, pn_back, eb]
      · exact C.fr u _ hus (two_ne' hus K.P.ob (by intro h; cases h)) (two_ne' hus K.P.dc (by intro h; cases h))) (EP ns a b NL c4 c5 (some (.res u))) st5 ⟨_, rfl, sh5, K5, hu5, fr5⟩
  have step4 : Pz_law_panes_p5 cv (EP ns a b NL c4 c5 (some (.res u))) st5 = .nx (EP ns a b NL c4' c5 (some (.res u))) st6 := by
    unfold Pz_law_panes_p5
    simp only [Int.natCast_add, Int.natCast_one] at lenF dm
    simp [addD_int, lenF, dm, dRng1, g2] at f6 ⊢
    exact f6
  refine ⟨st6, i5, u, sh6, ?_, K6, hu6, hui5, by omega, fr6, nw5⟩
  have hg : gz_law_panes cv [some (.scr (ns.map .int)), some (.int a), some (.res b), none, none, none, none] st = .rt (.res u) st6 := by
    unfold gz_law_panes
    refine (seq_nx (st' := st) (ρ' := EP ns a b NL none none none) ?_).trans ?_
    · unfold Pz_law_panes_p1
      rw [hN]
      simp [q3]
    refine (seq_nx step1).trans ((seq_nx step2).trans ((seq_nx step3).trans ((seq_nx step4).trans ?_)))
    rfl
  unfold Fz_law_panes
  exact runX_rt rfl hg
theorem nice_ps (n : Nat) (s : PStep) : nice (n + 3) (psD s) = true := by
  show nice (n + 2 + 1) (.tup [.str s.1, pl s.2.1, pl s.2.2]) = true
  unfold nice niceL niceL niceL niceL
  rw [nice_pl n s.2.1, nice_pl n s.2.2]
  rfl
theorem nice_pls (a : List (List Str)) : nice depth (.lst (a.map pl)) = true := by
  show nice (49 + 1) _ = true
  unfold nice
  rw [niceL_all]
  intro y hy
  obtain ⟨r, _, rfl⟩ := List.mem_map.mp hy
  exact nice_pl 47 r
/-! ### panes: names, close, back_in -/
noncomputable def dropS (sh : Sh) (n : Str) : Sh := sh.filter fun x => decide (x.1 ≠ n)
theorem dropS_D (sh : Sh) (n : Str) : dropD keyD (sh.map shD) (.str n) = (dropS sh n).map shD := by
  unfold dropD dropS
  induction sh with
  | nil => rfl
  | cons x r ih =>
    rw [List.map_cons, List.filter_cons, List.filter_cons, ih]
    by_cases e : x.1 = n
    · have e' : keyD (shD x).1 = keyD (.str n) := (key_str _ _).mpr e
      rw [if_neg (by simp [e']), if_neg (by simp [e])]
    · have e' : ¬ keyD (shD x).1 = keyD (.str n) := fun h => e ((key_str _ _).mp h)
      rw [if_pos (by simpa using e'), if_pos (by simpa using e), List.map_cons]
theorem valS_drop_ne {n m : Str} (h : m ≠ n) : ∀ sh : Sh, valS (dropS sh n) m = valS sh m
  | [] => rfl
  | x :: r => by
    have ih := valS_drop_ne h r
    unfold dropS at ih ⊢
    rw [List.filter_cons]
    by_cases e : x.1 = n
    · rw [if_neg (by simp [e]), ih, valS, if_neg (fun z => h (z.symm.trans e))]
    · rw [if_pos (by simpa using e), valS, valS, ih]
theorem valS_mem {n : Str} {q : List Str} : ∀ {sh : Sh}, valS sh n = some q → n ∈ sh.map (·.1)
  | [], h => by cases h
  | x :: r, h => by
    rw [valS] at h
    by_cases e : x.1 = n
    · exact List.mem_map.mpr ⟨x, List.mem_cons_self, e⟩
    · rw [if_neg e] at h
      rw [List.map_cons]
      exact List.mem_cons_of_mem _ (valS_mem h)
theorem dropS_keys (sh : Sh) (n : Str) : (dropS sh n).map (·.1) = (sh.map (·.1)).filter fun m => decide (m ≠ n) := by
  unfold dropS
  rw [List.filter_map]
  rfl
noncomputable def othS (R : List PStep) (n : Str) : List PStep := R.filter fun s => decide (s.1 ≠ n)
section
variable {cv : Nat → Addr} {st : Sto} {b d i : Nat} {sh : Sh} {row : List PStep} {k : Nat}
theorem PanesAt.names (B : PanesAt cv st b d i sh row k) (hs : sh.length < 64) : FzPanes_names cv [.res b] st = .ok (.lst ((SO.srtS (sh.map (·.1))).map D.str)) st := by
  have e1 : sortDF [.res d] st = .ok ((SO.srtS (sh.map (·.1))).map D.str) st := by
    have e0 : (sh.map shD).map (·.1) = (sh.map (·.1)).map D.str := by
      rw [List.map_map, List.map_map]; rfl
    unfold sortDF
    simp only [B.dc, e0, strsD_map, List.length_map, if_pos hs]
  unfold FzPanes_names gzPanes_names
  simp [z_fld, B.ins, pn_shown, e1]
theorem others_comp {L : List PStep} (hL : L.length ≤ 100) (n : Str) {st : Sto} {dd : D} (hi : itemsOf st dd = some (L.map psD)) : compD (fun st => itemsOf st dd = some (L.map psD)) (tgName 0) Czsteps_of_others_1 Ezsteps_of_others_1 (L.map psD) [none, some (.str n)] st [] = .ok ((othS L n).map psD) st := by
  rw [compD_fm (chk := fun st => itemsOf st dd = some (L.map psD)) psD (fun s => decide (s.1 ≠ n)) psD (fun ρ => ∃ a, ρ = [a, some (.str n)]) hi L _ [] ⟨_, rfl⟩ (by simp; exact small_ge (by omega))]
  · rfl
  · rintro x hx ρ ⟨a, rfl⟩
    refine ⟨_, rfl, ⟨_, rfl⟩, ?_, fun _ => ?_⟩
    · unfold Czsteps_of_others_1
      simp [ps0, neS]
    · unfold Ezsteps_of_others_1
      rfl
theorem others_eq {L : List PStep} (hL : L.length ≤ 100) (n : Str) {st : Sto} {dd : D} (hi : itemsOf st dd = some (L.map psD)) : Fzsteps_of_others [dd, .str n] st = .ok (.res st.length) (st ++ [.lst ((othS L n).map psD)]) := by
  have e := others_comp hL n hi
  unfold Fzsteps_of_others gzsteps_of_others sRetF
  simp [hi, capEv, e]
theorem PanesAt.popd (B : PanesAt cv st b d i sh row k) {n : Str} {q : List Str} (h : valS sh n = some q) {fo fi : DE} {ρ : Ev} (h1 : fo ρ st = .ok (.res d) st) (h2 : fi ρ st = .ok (.str n) st) : dPopD fo fi ρ st = .ok (pl q) (st.set d (.dct ((dropS sh n).map shD))) := by
  have e1 : valD keyD (sh.map shD) (.str n) = some (pl q) := by rw [valS_D, h]; rfl
  have e2 : keyD (.str n) = some (.inr n) := rfl
  simp only [z_dPopD, h1, z_bind_ok, B.dc, h2, e1, e2, dropS_D]
theorem PanesAt.close (B : PanesAt cv st b d i sh row k) {n : Str} {q : List Str} (h : valS sh n = some q) : ∃ st' i', FzPanes_close cv [.res b, .str n] st = .ok (.int ((row.length : Int) - (othS row n).length)) st' ∧
    PanesAt cv st' b d i' (dropS sh n) (othS row n) (othS (row.take k) n).length ∧ ChgP st st' b d i i' := by
  have hb : b < st.length := (List.getElem?_eq_some_iff.mp B.ob).1
  have hd : d < st.length := (List.getElem?_eq_some_iff.mp B.dc).1
  have hrl := B.rl
  have e0 := B.check h
  have hT : cutF (.res i) none (some (k : Int)) st = .ok ((row.take k).map psD) st := by
    simp only [cutF, seqL, B.rw, cutL_to, List.map_take]
  have o1 := others_eq (L := row.take k) (by rw [List.length_take]; omega) n (st := st) (dd := .lst ((row.take k).map psD)) rfl
  obtain ⟨m, hm⟩ : ∃ m, m = (othS (row.take k) n).length := ⟨_, rfl⟩
  obtain ⟨T1, hT1⟩ : ∃ T1, T1 = (othS (row.take k) n).map psD := ⟨_, rfl⟩
  obtain ⟨T2, hT2⟩ : ∃ T2, T2 = (othS row n).map psD := ⟨_, rfl⟩
  rw [← hT1] at o1
  have B1 := B.app [S.lst T1]
  have l1 : lenD [.res st.length] (st ++ [S.lst T1]) = .ok (.int m) (st ++ [S.lst T1]) := by
    rw [len_res (at_last st (S.lst T1)) , hm, hT1, List.length_map]
  have hsub : othS row n = othS (row.take k) n ++ othS (row.drop k) n := by
    unfold othS
    rw [← List.filter_append, List.take_append_drop]
  have hmle : m ≤ (othS row n).length := by rw [hsub, hm, List.length_append]; omega
  have hol : (othS row n).length ≤ row.length := List.length_filter_le _ _
  -- the field made
  obtain ⟨st2, hst2⟩ : ∃ st2, st2 = (st ++ [S.lst T1]).set b (.ins (cv 3) (pn d i m)) := ⟨_, rfl⟩
  have ob2 : st2[b]? = some (.ins (cv 3) (pn d i m)) := by rw [hst2]; exact List.getElem?_set_self (by simp; omega)
  have dc2 : st2[d]? = some (.dct (sh.map shD)) := by rw [hst2, List.getElem?_set_ne B.bd]; exact B1.dc
  have rw2 : st2[i]? = some (.lst (row.map psD)) := by rw [hst2, List.getElem?_set_ne B.bi]; exact B1.rw
  have i2 : insAt (cv 3) st2 (.res b) = some (b, pn d i m) := by simp [insAt, ob2]
  have o2 := others_eq (L := row) hrl n (st := st2) (dd := .res i) (getL rw2)
  rw [← hT2] at o2
  have C02 : ChgP st st2 b d i i := by
    rw [hst2]
    exact (chgP_app st [S.lst T1] b d i i (.inl rfl)).trans (chgP_b _ b d i _)
  have hlen2 : st.length ≤ st2.length := C02.le
  have hlen2' : b < st2.length := by omega
  have hd2 : d < st2.length := by omega
  obtain ⟨st3, hst3⟩ : ∃ st3, st3 = (st2 ++ [S.lst T2]).set b (.ins (cv 3) (pn d st2.length m)) := ⟨_, rfl⟩
  have i2' : insAt (cv 3) (st2 ++ [S.lst T2]) (.res b) = some (b, pn d i m) := by
    have : (st2 ++ [S.lst T2])[b]? = some (.ins (cv 3) (pn d i m)) := by rw [List.getElem?_append_left hlen2']; exact ob2
    simp [insAt, this]
  have B3 : PanesAt cv st3 b d st2.length sh (othS row n) m := by
    refine ⟨?_, ?_, ?_, hmle, by omega, B.sl⟩
    · rw [hst3]; exact List.getElem?_set_self (by simp; omega)
    · rw [hst3, List.getElem?_set_ne B.bd, List.getElem?_append_left hd2]; exact dc2
    · rw [hst3, List.getElem?_set_ne (by omega), ← hT2]; exact at_last _ _
  have C03 : ChgP st st3 b d i st2.length := by
    rw [hst3]
    exact C02.trans ((chgP_app st2 [S.lst T2] b d i st2.length (.inr (Nat.le_refl _))).trans (chgP_b _ b d _ _))
  have hdl : (dropS sh n).length ≤ 100 := Nat.le_trans (List.length_filter_le _ _) B.sl
  have B4 := B3.setD hdl
  refine ⟨_, st2.length, ?_, by rw [← hm]; exact B4, C03.trans (chgP_d _ b d _ _)⟩
  have i3 := B3.ins
  have i4 := B4.ins
  have l4 := B4.len
  have l0 := B.len
  unfold FzPanes_close
  refine runX_rt rfl ?_
  show gzPanes_close cv [some (.res b), some (.str n), none] st = _
  unfold gzPanes_close
  refine (seq_nx (st' := st) (ρ' := [some (.res b), some (.str n), none]) ?_).trans ?_
  · simp [z_meth, B.ins, pn_check, e0]
  refine (seq_nx (st' := st) (ρ' := [some (.res b), some (.str n), some (.int row.length)]) ?_).trans ?_
  · simp [z_fld, B.ins, pn_row, l0]
  refine (seq_nx (st' := st2) (ρ' := [some (.res b), some (.str n), some (.int row.length)]) ?_).trans ?_
  · simp only [z_sFldS, z_call, z_cons, z_nil, z_F, z_sl, z_fld, z_var, List.getElem?_cons_zero, List.getElem?_cons_succ, z_bind_ok, B.ins, pn_row, pn_made, z_noPart, z_part, z_asInt, hT, o1, l1, z_to_ok, B1.ins, pn_len, if_true, pn_put_made, hst2]
  refine (seq_nx (st' := st3) (ρ' := [some (.res b), some (.str n), some (.int row.length)]) ?_).trans ?_
  · simp only [z_sFldS, z_call, z_cons, z_nil, z_fld, z_var, List.getElem?_cons_zero, List.getElem?_cons_succ, z_bind_ok, i2, pn_row, o2, z_to_ok, i2', pn_len, if_true, pn_put_row, hst3]
  have hpop := B3.popd h (fo := dFld (cv 3) "shown" (dVar 0)) (fi := dVar 1) (ρ := [some (.res b), some (.str n), some (.int row.length)]) (by simp [z_fld, i3, pn_shown]) rfl
  refine (seq_nx (st' := st3.set d (.dct ((dropS sh n).map shD))) (ρ' := [some (.res b), some (.str n), some (.int row.length)]) ?_).trans ?_
  · rw [z_sExpr, hpop]
    rfl
  · simp [z_fld, i4, pn_row, l4, subD_int]
end
/-! back_in -/
theorem inN_strs (x : Str) (st : Sto) : ∀ ws : List Str, inN st depth (.str x) (ws.map D.str) = some (decide (x ∈ ws))
  | [] => by simp [inN]
  | w :: ws => by
    have h1 : eqN st depth (.str w) (.str x) = some (decide (w = x)) := by
      rw [eqN_nice st depth _ _ rfl rfl]
      congr 1
      exact decide_eq_decide.mpr (by rw [D.str.injEq])
    rw [List.map_cons, inN, h1, inN_strs x st ws]
    by_cases h : w = x
    · subst h
      simp
    · have h' : ¬ x = w := fun z => h z.symm
      simp [h, h']
theorem notIn_strs (x : Str) (ws : List Str) (st : Sto) : notInD (.str x) (.lst (ws.map D.str)) st = .ok (.bl (!decide (x ∈ ws))) st := by
  simp [notInD, itemsOf, seqL, inN_strs]
theorem KP.back_in {N : List Str} {cv : Nat → Addr} {b d i : Nat} {R : List PStep} {σ : Sg} {n : Str} {l : Nat} {sl : PStep} (hl : R[l]? = some sl) (hsl : sl.1 = n) : ∀ (k f : Nat) (st : Sto) (sh : Sh) (z : Int), l < k → k < f + l + 1 → (∀ j s, l < j → j < k → R[j]? = some s → s.1 ≠ n) → KP N cv st b d i sh R k σ →
    ∃ st' sh', whileD f (VzPanes_back_in_1 cv) WzPanes_back_in_1 [some (.res b), some (.str n), some (.int z)] st = .nx [some (.res b), some (.str n), some (.int (z + ((k : Int) - 1 - l)))] st' ∧ KP N cv st' b d i sh' R l σ ∧ ChgP st st' b d i i
  | 0, f, st, sh, z, h, _, _, _ => by omega
  | k + 1, 0, st, sh, z, h, hf, _, _ => by omega
  | k + 1, f + 1, st, sh, z, h, hf, hne, K => by
    obtain ⟨st1, sh1, s, hs, e1, K1, C1⟩ := K.back rfl
    have hv : VzPanes_back_in_1 cv [some (.res b), some (.str n), some (.int z)] st = .ok (!decide (s.1 = n)) st1 := by
      unfold VzPanes_back_in_1
      simp [z_meth, K.P.ins, pn_back, e1, neS]
    by_cases hk : l = k
    · subst hk
      rw [hl] at hs
      cases hs
      refine ⟨st1, sh1, ?_, K1, C1⟩
      unfold whileD
      simp only [hv, hsl, decide_true, Bool.not_true, z_to_ok, Bool.false_eq_true, if_false]
      have : z + (((l + 1 : Nat) : Int) - 1 - l) = z := by omega
      rw [this]
    · have hsn := hne k s (by omega) (by omega) hs
      obtain ⟨st2, sh2, e2, K2, C2⟩ := KP.back_in hl hsl k f st1 sh1 (z + 1) (by omega) (by omega) (fun j s h1 h2 => hne j s h1 (by omega)) K1
      refine ⟨st2, sh2, ?_, K2, C1.trans C2⟩
      have hw : WzPanes_back_in_1 [some (.res b), some (.str n), some (.int z)] st1 = .nx [some (.res b), some (.str n), some (.int (z + 1))] st1 := by
        unfold WzPanes_back_in_1
        simp
      conv => lhs; unfold whileD
      simp only [hv, hsn, decide_false, Bool.not_false, z_to_ok, if_true, hw]
      rw [e2]
      have : z + 1 + ((k : Int) - 1 - l) = z + (((k + 1 : Nat) : Int) - 1 - l) := by omega
      rw [this]
theorem KP.backIn {N : List Str} {cv : Nat → Addr} {b d i : Nat} {R : List PStep} {σ : Sg} {n : Str} {l : Nat} {sl : PStep} {k : Nat} {st : Sto} {sh : Sh} (K : KP N cv st b d i sh R k σ) (hn : n ∈ N) (hl : R[l]? = some sl) (hsl : sl.1 = n) (hlk : l < k) (hne : ∀ j s, l < j → j < k → R[j]? = some s → s.1 ≠ n) (hk : k < 90) :
    ∃ st' sh', FzPanes_back_in cv [.res b, .str n] st = .ok (.int ((k : Int) - l)) st' ∧ KP N cv st' b d i sh' R l σ ∧ ChgP st st' b d i i := by
  obtain ⟨st', sh', e, K', C⟩ := KP.back_in hl hsl k 100 st sh 1 hlk (by omega) hne K
  refine ⟨st', sh', ?_, K', C⟩
  have hv := K.sw n hn
  have e0 := K.P.check hv
  have hle := K.P.le
  have hT : cutF (.res i) none (some (k : Int)) st = .ok ((R.take k).map psD) st := by
    simp only [cutF, seqL, K.P.rw, cutL_to, List.map_take]
  obtain ⟨T, hT0⟩ : ∃ T, T = (R.take k).map psD := ⟨_, rfl⟩
  rw [← hT0] at hT
  have c1 : compD (fun st => itemsOf st (.lst T) = some T) (tgName 0) dTrue EzPanes_back_in_1 T [none] st [] = .ok ((R.take k).map fun s => D.str s.1) st := by
    have hc : itemsOf st (.lst T) = some T := rfl
    have := compD_mm (chk := fun st => itemsOf st (.lst T) = some T) (t := tgName 0) (fe := EzPanes_back_in_1) psD (fun x : PStep => D.str x.1) (fun ρ => ∃ a, ρ = [a]) hc (R.take k) [none] [] ⟨_, rfl⟩ (by simp; exact small_ge (by omega)) ?_
    · rw [← hT0] at this; exact this
    · rintro x hx ρ ⟨a, rfl⟩
      refine ⟨_, rfl, ⟨_, rfl⟩, ?_⟩
      unfold EzPanes_back_in_1
      simp [ps0]
  obtain ⟨T3, hT3⟩ : ∃ T3, T3 = (R.take k).map fun s : PStep => D.str s.1 := ⟨_, rfl⟩
  rw [← hT3] at c1
  have c2 : notInD (.str n) (.lst T3) st = .ok (.bl false) st := by
    have e3 : T3 = ((R.take k).map fun s : PStep => s.1).map D.str := by rw [hT3, List.map_map]; rfl
    have hm : n ∈ (R.take k).map fun s : PStep => s.1 := by
      refine List.mem_map.mpr ⟨sl, ?_, hsl⟩
      exact List.mem_iff_getElem?.mpr ⟨l, by rw [List.getElem?_take_of_lt hlk]; exact hl⟩
    rw [e3, notIn_strs, decide_eq_true hm]
    rfl
  have hi : itemsOf st (.lst T) = some T := rfl
  unfold FzPanes_back_in
  refine runX_rt rfl ?_
  show gzPanes_back_in cv [some (.res b), some (.str n), none] st = _
  unfold gzPanes_back_in
  refine (seq_nx (st' := st) (ρ' := [some (.res b), some (.str n), none]) ?_).trans ?_
  · simp [z_meth, K.P.ins, pn_check, e0]
  refine (seq_nx (st' := st) (ρ' := [some (.res b), some (.str n), none]) (sif_no ?_)).trans ?_
  · simp [z_fld, K.P.ins, pn_row, pn_made, hT, hi, capEv, c1, c2]
  refine (seq_nx (st' := st) (ρ' := [some (.res b), some (.str n), some (.int 1)]) rfl).trans ?_
  refine (seq_nx e).trans ?_
  have : (1 : Int) + ((k : Int) - 1 - l) = (k : Int) - l := by omega
  rw [this]
  rfl
/-! ### panes within a law: whatever the names -/
theorem KP.snapL {N : List Str} {cv : Nat → Addr} {st : Sto} {b d i : Nat} {sh : Sh} {R : List PStep} {k : Nat} {σ : Sg} (X : KP N cv st b d i sh R k σ) {L : List Str} (hL : ∀ n ∈ L, n ∈ N) (hl : L.length ≤ 100) {NL : List D} (hN : NL = L.map D.str) :
    compD (fun st => itemsOf st (.lst NL) = some NL) (tgName 0) dTrue (dMeth (cv 3) "place" (FzPanes_place cv) (dVar 1) (dCons (dVar 0) dNil)) NL [none, some (.res b)] st [] = .ok (L.map fun n => pl (endS σ (R.take k) n)) st := by
  subst hN
  have hc : itemsOf st (.lst (L.map D.str)) = some (L.map D.str) := rfl
  refine compD_mm (chk := fun st => itemsOf st (.lst (L.map D.str)) = some (L.map D.str)) D.str (fun n => pl (endS σ (R.take k) n)) (fun ρ => ∃ a, ρ = [a, some (.res b)]) hc L [none, some (.res b)] [] ⟨_, rfl⟩ (by simp; exact small_ge (by omega)) ?_
  rintro x hx ρ ⟨a, rfl⟩
  refine ⟨_, rfl, ⟨_, rfl⟩, ?_⟩
  have e := X.place (hL x hx)
  simp [z_meth, X.P.ins, pn_place, e]
theorem nice_L {α : Type} (f : α → D) (h : ∀ x, nice 49 (f x) = true) (L : List α) : nice depth (.lst (L.map f)) = true := by
  show nice (49 + 1) _ = true
  unfold nice
  rw [niceL_all]
  intro y hy
  obtain ⟨x, _, rfl⟩ := List.mem_map.mp hy
  exact h x
noncomputable def MS (N : List Str) (cv : Nat → Addr) (st : Sto) (b d u : Nat) (R : List PStep) (k : Nat) (σ : Sg) (FL : List D) : Prop := ∃ i sh, KP N cv st b d i sh R k σ ∧ st[u]? = some (.lst FL)
section
variable {N : List Str} {cv : Nat → Addr} {st : Sto} {b d u : Nat} {R : List PStep} {k : Nat} {σ : Sg} {FL : List D}
theorem MS.le (X : MS N cv st b d u R k σ FL) : k ≤ R.length := by
  obtain ⟨i, sh, K, _⟩ := X
  exact K.P.le
theorem MS.va (X : MS N cv st b d u R k σ FL) : ValR N σ R := by
  obtain ⟨i, sh, K, _⟩ := X
  exact K.va
theorem MS.found (X : MS N cv st b d u R k σ FL) : st[u]? = some (.lst FL) := by
  obtain ⟨i, sh, K, h⟩ := X
  exact h
theorem KP.fr {i i' : Nat} {sh : Sh} {st' : Sto} (K : KP N cv st b d i sh R k σ) (h : st[u]? = some (.lst FL)) (C : ChgP st st' b d i i') : st'[u]? = some (.lst FL) :=
  C.fr u _ h (two_ne' h K.P.ob (by intro h; cases h)) (two_ne' h K.P.dc (by intro h; cases h))
theorem MS.mBack (X : MS N cv st b d u R k σ FL) {j : Nat} (hj : k = j + 1) : ∃ st' s, R[j]? = some s ∧ (∀ (ρ : Ev), ρ[1]? = some (some (.res b)) → dMeth (cv 3) "back" (FzPanes_back cv) (dVar 1) dNil ρ st = .ok (.str s.1) st') ∧ MS N cv st' b d u R j σ FL := by
  obtain ⟨i, sh, K, h⟩ := X
  obtain ⟨st', sh', s, hs, e, K', C⟩ := K.back hj
  exact ⟨st', s, hs, fun ρ hρ => by simp [z_meth, hρ, K.P.ins, pn_back, e], i, sh', K', K.fr h C⟩
theorem MS.mForth (X : MS N cv st b d u R k σ FL) {s : PStep} (hs : R[k]? = some s) : ∃ st', (∀ (ρ : Ev), ρ[1]? = some (some (.res b)) → dMeth (cv 3) "forth" (FzPanes_forth cv) (dVar 1) dNil ρ st = .ok (.str s.1) st') ∧ MS N cv st' b d u R (k + 1) σ FL := by
  obtain ⟨i, sh, K, h⟩ := X
  obtain ⟨st', sh', e, K', C⟩ := K.forth hs
  exact ⟨st', fun ρ hρ => by simp [z_meth, hρ, K.P.ins, pn_forth, e], i, sh', K', K.fr h C⟩
theorem MS.mDone (X : MS N cv st b d u R k σ FL) (ρ : Ev) (hρ : ρ[1]? = some (some (.res b))) : dMeth (cv 3) "done" (FzPanes_done cv) (dVar 1) dNil ρ st = .ok (.int k) st := by
  obtain ⟨i, sh, K, h⟩ := X
  have e := K.P.done
  simp [z_meth, hρ, K.P.ins, pn_done, e]
theorem MS.mSteps (X : MS N cv st b d u R k σ FL) (ρ : Ev) (hρ : ρ[1]? = some (some (.res b))) : dMeth (cv 3) "steps" (FzPanes_steps cv) (dVar 1) dNil ρ st = .ok (.lst (R.map psD)) st := by
  obtain ⟨i, sh, K, h⟩ := X
  have e := K.P.steps
  simp [z_meth, hρ, K.P.ins, pn_steps, e]
theorem MS.mPlace (X : MS N cv st b d u R k σ FL) {n : Str} (hn : n ∈ N) {fa : DE} (ρ : Ev) (hρ : ρ[1]? = some (some (.res b))) (ha : fa ρ st = .ok (.str n) st) : dMeth (cv 3) "place" (FzPanes_place cv) (dVar 1) (dCons fa dNil) ρ st = .ok (pl (endS σ (R.take k) n)) st := by
  obtain ⟨i, sh, K, h⟩ := X
  have e := K.place hn
  simp [z_meth, hρ, K.P.ins, pn_place, ha, e]
theorem MS.snapE (X : MS N cv st b d u R k σ FL) {L : List Str} (hL : ∀ n ∈ L, n ∈ N) (hl : L.length ≤ 100) {NL : List D} (hN : NL = L.map D.str) {fs : DE} (v : Nat) (ρ : Ev) (h1 : ρ[v]? = some (some (.res b))) (h2 : fs ρ st = .ok (.lst NL) st) :
    dF (dComp [v] 1 (dSeq fs) (tgName 0) dTrue (dMeth (cv 3) "place" (FzPanes_place cv) (dVar 1) (dCons (dVar 0) dNil))) ρ st = .ok (.lst (L.map fun n => pl (endS σ (R.take k) n))) st := by
  obtain ⟨i, sh, K, h⟩ := X
  have e := K.snapL hL hl hN
  have hi : itemsOf st (.lst NL) = some NL := rfl
  simp [h1, h2, hi, capEv, e]
end
theorem rowsAt {R : List PStep} {j : Nat} {z : Int} {s : PStep} (hz : z = j) (hs : R[j]? = some s) (st : Sto) : ixD (.lst (R.map psD)) (.int z) st = .ok (psD s) st := by
  subst hz
  have hx : L2.atI (R.map psD) (j : Int) = some (psD s) := atI_nat (by rw [List.getElem?_map, hs]; rfl)
  have hi : itemsOf st (.lst (R.map psD)) = some (R.map psD) := rfl
  simp only [ixD, hi, hx]
theorem lenL (xs : List D) (st : Sto) : lenD [.lst xs] st = .ok (.int xs.length) st := rfl
theorem ix_last {xs : List D} {v : D} (h : xs.getLast? = some v) (st : Sto) : ixD (.lst xs) (.int (-1)) st = .ok v st := by
  have hl : 0 < xs.length := by
    cases xs with
    | nil => simp at h
    | cons a b => simp
  have hx : L2.atI xs (-1) = some v := by
    unfold L2.atI
    rw [ixN_m1 hl]
    rw [List.getLast?_eq_getElem?] at h
    exact h
  have hi : itemsOf st (.lst xs) = some xs := rfl
  simp [ixD, hi, hx]
theorem cutF_l (T : List D) (lo hi : Option Int) (st : Sto) : cutF (.lst T) lo hi st = .ok (cutL T lo hi) st := rfl
/-! ### a pane's steps are gone, the others' stay -/
theorem valR_oth {N : List Str} (n : Str) : ∀ (R : List PStep) (σ τ : Sg), (∀ m, m ≠ n → σ m = τ m) → ValR N σ R → ValR (N.filter fun m => decide (m ≠ n)) τ (othS R n)
  | [], _, _, _, _ => trivial
  | s :: R, σ, τ, ha, hv => by
    unfold othS
    rw [List.filter_cons]
    by_cases e : s.1 = n
    · rw [if_neg (by simp [e])]
      refine valR_oth n R (updF σ s.1 s.2.2) τ (fun m hm => ?_) hv.2
      unfold updF
      rw [if_neg (fun z => hm (z.trans e))]
      exact ha m hm
    · rw [if_pos (by simpa using e)]
      refine ⟨⟨List.mem_filter.mpr ⟨hv.1.1, by simpa using e⟩, by rw [hv.1.2]; exact ha _ e⟩, valR_oth n R (updF σ s.1 s.2.2) (updF τ s.1 s.2.2) (fun m hm => ?_) hv.2⟩
      unfold updF
      split
      · rfl
      · exact ha m hm
theorem endS_oth (n : Str) : ∀ (R : List PStep) (σ τ : Sg), (∀ m, m ≠ n → σ m = τ m) → ∀ m, m ≠ n → endS σ R m = endS τ (othS R n) m
  | [], _, _, ha, m, hm => ha m hm
  | s :: R, σ, τ, ha, m, hm => by
    unfold othS
    rw [List.filter_cons]
    by_cases e : s.1 = n
    · rw [if_neg (by simp [e])]
      refine endS_oth n R (updF σ s.1 s.2.2) τ (fun m hm => ?_) m hm
      unfold updF
      rw [if_neg (fun z => hm (z.trans e))]
      exact ha m hm
    · rw [if_pos (by simpa using e)]
      refine endS_oth n R (updF σ s.1 s.2.2) (updF τ s.1 s.2.2) (fun m hm => ?_) m hm
      unfold updF
      split
      · rfl
      · exact ha m hm
theorem oth_take (R : List PStep) (n : Str) (k : Nat) : (othS R n).take (othS (R.take k) n).length = othS (R.take k) n := by
  have h : othS R n = othS (R.take k) n ++ othS (R.drop k) n := by
    unfold othS
    rw [← List.filter_append, List.take_append_drop]
  rw [h, List.take_left']
  rfl
theorem own_oth_len (n : Str) : ∀ R : List PStep, R.length = (ownS R n).length + (othS R n).length
  | [] => rfl
  | s :: R => by
    have ih := own_oth_len n R
    unfold ownS othS at ih ⊢
    rw [List.filter_cons, List.filter_cons]
    by_cases e : s.1 = n
    · rw [if_pos (by simpa using e), if_neg (by simp [e])]
      simp only [List.length_cons]
      omega
    · rw [if_neg (by simpa using e), if_pos (by simpa using e)]
      simp only [List.length_cons]
      omega
theorem KP.close {N : List Str} {cv : Nat → Addr} {st : Sto} {b d i : Nat} {sh : Sh} {R : List PStep} {k : Nat} {σ : Sg} (X : KP N cv st b d i sh R k σ) {n : Str} (hn : n ∈ N) : ∃ st' i', FzPanes_close cv [.res b, .str n] st = .ok (.int (ownS R n).length) st' ∧
    KP (N.filter fun m => decide (m ≠ n)) cv st' b d i' (dropS sh n) (othS R n) (othS (R.take k) n).length σ ∧ ChgP st st' b d i i' := by
  obtain ⟨st', i', e, P', C⟩ := X.P.close (X.sw n hn)
  have h1 := own_oth_len n R
  have h2 : ((R.length : Int) - (othS R n).length) = (ownS R n).length := by omega
  rw [h2] at e
  refine ⟨st', i', e, ⟨P', valR_oth n R σ σ (fun _ _ => rfl) X.va, ?_, Nat.le_trans (List.length_filter_le _ _) X.sl, by rw [dropS_keys, X.ks]⟩, C⟩
  intro m hm
  obtain ⟨hm1, hm2⟩ := List.mem_filter.mp hm
  have hm3 : m ≠ n := by simpa using hm2
  rw [valS_drop_ne hm3, X.sw m hm1, oth_take]
  congr 1
  exact endS_oth n _ σ σ (fun _ _ => rfl) m hm3
theorem srt_N {N : List Str} (h : N.Pairwise (fun a b => SO.tltB a b = true)) (p : Str → Bool) : SO.srtS (N.filter p) = N.filter p :=
  (SO.srtS_uniq (List.Perm.refl _) (h.sublist List.filter_sublist)).symm
theorem N3_pw : N3.Pairwise (fun a b => SO.tltB a b = true) := by decide +kernel
/-! the last step of a pane -/
theorem last_own {R : List PStep} {n : Str} : ∀ k : Nat, k ≤ R.length → ownS (R.take k) n ≠ [] → ∃ l s, l < k ∧ R[l]? = some s ∧ s.1 = n ∧ (∀ j s, l < j → j < k → R[j]? = some s → s.1 ≠ n)
  | 0, _, h => absurd rfl h
  | k + 1, hk, h => by
    have hs : R[k]? = some R[k] := List.getElem?_eq_getElem (by omega)
    by_cases e : R[k].1 = n
    · exact ⟨k, R[k], by omega, hs, e, fun j s h1 h2 => by omega⟩
    · have h0 : ownS (R.take (k + 1)) n = ownS (R.take k) n := by
        unfold ownS
        rw [List.take_succ, hs, List.filter_append]
        simp [e]
      rw [h0] at h
      obtain ⟨l, s, h1, h2, h3, h4⟩ := last_own k (by omega) h
      refine ⟨l, s, by omega, h2, h3, fun j t hj1 hj2 ht => ?_⟩
      by_cases ej : j = k
      · subst ej
        rw [hs] at ht
        cases ht
        exact e
      · exact h4 j t hj1 (by omega) ht
theorem own_tail {R : List PStep} {n : Str} {l : Nat} {s : PStep} (hs : R[l]? = some s) (e : s.1 = n) : ∀ k : Nat, l < k → k ≤ R.length → (∀ j s, l < j → j < k → R[j]? = some s → s.1 ≠ n) → (ownS (R.take k) n).getLast? = some s ∧ ((List.range k).filter fun j => decide ((R.getD j ("", [], [])).1 = n)).getLast? = some l
  | 0, h, _, _ => by omega
  | k + 1, h, hk, hne => by
    have hk' : R[k]? = some R[k] := List.getElem?_eq_getElem (by omega)
    have hD : R.getD k ("", [], []) = R[k] := by rw [List.getD_eq_getElem?_getD, hk']; rfl
    by_cases hl : l = k
    · subst hl
      rw [hk'] at hs
      have hs' := Option.some.inj hs
      constructor
      · unfold ownS
        rw [List.take_succ, hk', List.filter_append]
        simp [hs', e]
      · rw [List.range_succ, List.filter_append]
        have : decide ((R.getD l ("", [], [])).1 = n) = true := by rw [hD, hs']; exact decide_eq_true e
        rw [List.filter_cons, if_pos this]
        simp
    · have hn := hne k R[k] (by omega) (by omega) hk'
      obtain ⟨h1, h2⟩ := own_tail hs e k (by omega) (by omega) (fun j t a b => hne j t a (by omega))
      constructor
      · unfold ownS at h1 ⊢
        rw [List.take_succ, hk', List.filter_append]
        simpa [hn] using h1
      · rw [List.range_succ, List.filter_append]
        have : ¬ decide ((R.getD k ("", [], [])).1 = n) = true := by rw [hD]; simpa using hn
        rw [List.filter_cons, if_neg this]
        simpa using h2
/-! ### k42 -/
noncomputable abbrev EL (ns : List Int) (b u : Nat) (RD : List D) (k : Nat) (n : Str) (OD SD WD : List D) (c9 c10 c11 c12 c13 : Option D) : Ev := [some (.scr (ns.map .int)), some (.res b), some (.res u), some (.lst RD), some (.int k), some (.str n), some (.lst OD), some (.lst SD), some (.lst WD), c9, c10, c11, c12, c13]
noncomputable abbrev N2 (n : Str) : List Str := N3.filter fun m => decide (m ≠ n)
theorem N2_le (n : Str) : (N2 n).length ≤ 3 := List.length_filter_le _ _
theorem N2_sub {n m : Str} (h : m ∈ N2 n) : m ∈ N3 := (List.mem_filter.mp h).1
theorem lstN3 (ρ : Ev) (st : Sto) : dF (dLst (dCons (dC (.str "p")) (dCons (dC (.str "q")) (dCons (dC (.str "r")) dNil)))) ρ st = .ok (.lst (N3.map D.str)) st := by
  have q3 : (3 : Nat) ≤ small := by decide
  simp [q3]
theorem others_c (n : Str) (st : Sto) {NL : List D} (hN : NL = N3.map D.str) : compD (fun st => itemsOf st (.lst NL) = some NL) (tgName 0) Czlaw_1 Ezlaw_1 NL [none, some (.str n)] st [] = .ok ((N2 n).map D.str) st := by
  subst hN
  have hc : itemsOf st (.lst (N3.map D.str)) = some (N3.map D.str) := rfl
  rw [compD_fm (chk := fun st => itemsOf st (.lst (N3.map D.str)) = some (N3.map D.str)) D.str (fun m => decide (m ≠ n)) D.str (fun ρ => ∃ a, ρ = [a, some (.str n)]) hc N3 _ [] ⟨_, rfl⟩ (by show 3 ≤ small; decide)]
  · rfl
  · rintro x hx ρ ⟨a, rfl⟩
    refine ⟨_, rfl, ⟨_, rfl⟩, ?_, fun _ => ?_⟩
    · unfold Czlaw_1
      simp [neS]
    · unfold Ezlaw_1
      rfl
/-- rows of the name n, rows of the others -/
theorem own_c (C : DT) (E : DE) (hC : ∀ (s : PStep) (n : Str) (st : Sto), C [some (psD s), some (.str n)] st = .ok (decide (s.1 = n)) st) (hE : ∀ (s : PStep) (n : Str) (st : Sto), E [some (psD s), some (.str n)] st = .ok (psD s) st) {L : List PStep} (hl : L.length ≤ 100) (n : Str) (st : Sto) {T : List D} (hT : T = L.map psD) :
    compD (fun st => itemsOf st (.lst T) = some T) (tgName 0) C E T [none, some (.str n)] st [] = .ok ((ownS L n).map psD) st := by
  subst hT
  have hc : itemsOf st (.lst (L.map psD)) = some (L.map psD) := rfl
  rw [compD_fm (chk := fun st => itemsOf st (.lst (L.map psD)) = some (L.map psD)) psD (fun s => decide (s.1 = n)) psD (fun ρ => ∃ a, ρ = [a, some (.str n)]) hc L _ [] ⟨_, rfl⟩ (by simp; exact small_ge (by omega))]
  · rfl
  · rintro x hx ρ ⟨a, rfl⟩
    exact ⟨_, rfl, ⟨_, rfl⟩, hC x n st, fun _ => hE x n st⟩
theorem oth_c (C : DT) (E : DE) (hC : ∀ (s : PStep) (n : Str) (st : Sto), C [some (psD s), some (.str n)] st = .ok (decide (s.1 ≠ n)) st) (hE : ∀ (s : PStep) (n : Str) (st : Sto), E [some (psD s), some (.str n)] st = .ok (psD s) st) {L : List PStep} (hl : L.length ≤ 100) (n : Str) (st : Sto) {T : List D} (hT : T = L.map psD) :
    compD (fun st => itemsOf st (.lst T) = some T) (tgName 0) C E T [none, some (.str n)] st [] = .ok ((othS L n).map psD) st := by
  subst hT
  have hc : itemsOf st (.lst (L.map psD)) = some (L.map psD) := rfl
  rw [compD_fm (chk := fun st => itemsOf st (.lst (L.map psD)) = some (L.map psD)) psD (fun s => decide (s.1 ≠ n)) psD (fun ρ => ∃ a, ρ = [a, some (.str n)]) hc L _ [] ⟨_, rfl⟩ (by simp; exact small_ge (by omega))]
  · rfl
  · rintro x hx ρ ⟨a, rfl⟩
    exact ⟨_, rfl, ⟨_, rfl⟩, hC x n st, fun _ => hE x n st⟩
theorem hE0 (s : PStep) (n : Str) (st : Sto) : (dVar 0 : DE) [some (psD s), some (.str n)] st = .ok (psD s) st := rfl
theorem hCeq (s : PStep) (n : Str) (st : Sto) : (dB (dBin eqD (dBin ixD (dVar 0) (dC (.int 0))) (dVar 1))) [some (psD s), some (.str n)] st = .ok (decide (s.1 = n)) st := by simp [ps0, eqS]
theorem hCne (s : PStep) (n : Str) (st : Sto) : (dB (dBin neD (dBin ixD (dVar 0) (dC (.int 0))) (dVar 1))) [some (psD s), some (.str n)] st = .ok (decide (s.1 ≠ n)) st := by simp [ps0, neS]
theorem nice_psL (L : List PStep) : nice depth (.lst (L.map psD)) = true := nice_L psD (fun s => nice_ps 46 s) L
theorem nice_strL (L : List Str) : nice depth (.lst (L.map D.str)) = true := nice_L D.str (fun _ => rfl) L
theorem nice_plL (L : List Str) (f : Str → List Str) : nice depth (.lst (L.map fun n => pl (f n))) = true := nice_L _ (fun n => nice_pl 47 (f n)) L
/-! the copy -/
theorem p9_eq (cv : Nat → Addr) (ns : List Int) (hl : ns.length ≤ 63) {st : Sto} {b d i u : Nat} {sh : Sh} (K : KP N3 cv st b d i sh (RV ns 0) (kV0 ns 0) (sg0 ns 0)) (hu : st[u]? = some (.lst (fL (sg0 ns 0) (RV ns 0)))) (n : Str) (hn : n ∈ N3) {RD : List D} (hR : RD = (RV ns 0).map psD) (OD SD : List D) {WD : List D} (hW : WD = (ownS ((RV ns 0).take (kV0 ns 0)) n).map psD) :
    ∃ st' c9 c10, Pzlaw_p9 cv (EL ns b u RD (kV0 ns 0) n OD SD WD none none none none none) st = .nx (EL ns b u RD (kV0 ns 0) n OD SD WD c9 c10 none none none) st' ∧ KP N3 cv st' b d i sh (RV ns 0) (kV0 ns 0) (sg0 ns 0) ∧ st'[u]? = some (.lst (fL (sg0 ns 0) (RV ns 0))) := by
  have hR8 : (RV ns 0).length ≤ 8 := by unfold RV; rw [stpV_len]; exact nV_le ns 0
  have hP := fun (s : Sto) (hs : s = st) => panes_eq cv ns hl 0 (panes_new (cv := cv) s)
  have hPP := hP st rfl
  clear hP
  generalize RV ns 0 = R at *
  generalize kV0 ns 0 = k at *
  generalize sg0 ns 0 = σ at *
  have hkR := K.P.le
  have n1 : neD (.lst WD) (.lst []) st = .ok (.bl (!decide (ownS (R.take k) n = []))) st := by
    rw [hW, neD_nice (nice_psL _) rfl]
    congr 3
    refine decide_eq_decide.mpr ?_
    rw [D.lst.injEq, List.map_eq_nil_iff]
  by_cases ho : ownS (R.take k) n = []
  · refine ⟨st, none, none, ?_, K, hu⟩
    unfold Pzlaw_p9
    refine sif_no ?_
    simp [n1, ho]
  · obtain ⟨l, s, hlk, hs, hsn, hne⟩ := last_own k hkR ho
    obtain ⟨t1, t2⟩ := own_tail hs hsn k hlk hkR hne
    obtain ⟨st2, i2, u2, sh2, e2, K2, hu2, _, hle2, fr2, _⟩ := hPP
    have mk := make_panes (cv := cv) st
    have frm : ∀ j x, st[j]? = some x → st2[j]? = some x := fun j x hx => by
      have hj : j < st.length := (List.getElem?_eq_some_iff.mp hx).1
      refine fr2 j x ?_ (by omega) (by omega)
      rw [List.getElem?_append_left hj]
      exact hx
    obtain ⟨st3, sh3, e3, K3, C3⟩ := K2.backIn hn hs hsn hlk hne (by omega)
    have frm3 : ∀ j x, st[j]? = some x → st3[j]? = some x := fun j x hx => by
      have hj : j < st.length := (List.getElem?_eq_some_iff.mp hx).1
      exact C3.fr j x (frm j x hx) (by omega) (by omega)
    refine ⟨st3, some (.res st.length), some (.int l), ?_, K.frame (fun x h => frm3 _ x h) (fun x h => frm3 _ x h) (fun x h => frm3 _ x h), frm3 _ _ hu⟩
    have e0 : (dB (dBin neD (dVar 8) (dF (dLst dNil)))) (EL ns b u RD k n OD SD WD none none none none none) st = .ok true st := by
      simp [n1, ho]
    unfold Pzlaw_p9
    rw [sif_t e0]
    refine (seq_nx (st' := st ++ [.ins (cv 3) (pn (st.length + 1) (st.length + 2) 0), .dct [], .lst []]) (ρ' := EL ns b u RD k n OD SD WD (some (.res st.length)) none none none none) ?_).trans ?_
    · unfold Pzlaw_p10
      simp [z_make, mk, asNon]
    refine (seq_nx (st' := st2) (ρ' := EL ns b u RD k n OD SD WD (some (.res st.length)) none none none none) ?_).trans ?_
    · unfold Pzlaw_p11
      simp [e2]
    refine (seq_nx (st' := st2) (ρ' := EL ns b u RD k n OD SD WD (some (.res st.length)) (some (.int l)) none none none) ?_).trans ?_
    · have g1 : rngOk (k : Int) = true := rngOk_of (by omega) (by omega)
      have c1 : compD (fun _ => True) (tgName 0) Czlaw_3 Ezlaw_4 ((List.range k).map fun (i : Nat) => D.int (0 + i)) [none, some (.str n), some (.lst RD)] st2 [] = .ok (((List.range k).filter fun j => decide ((R.getD j ("", [], [])).1 = n)).map fun (i : Nat) => D.int (0 + i)) st2 := by
        rw [compD_fm (chk := fun _ => True) (fun (i : Nat) => D.int (0 + i)) (fun j => decide ((R.getD j ("", [], [])).1 = n)) (fun (i : Nat) => D.int (0 + i)) (fun ρ => ∃ a, ρ = [a, some (.str n), some (.lst RD)]) trivial (List.range k) _ [] ⟨_, rfl⟩ (by simp; exact small_ge (by omega))]
        · rfl
        · rintro j hj ρ ⟨a, rfl⟩
          rw [List.mem_range] at hj
          have hjR : R[j]? = some (R.getD j ("", [], [])) := by rw [List.getD_eq_getElem?_getD, List.getElem?_eq_getElem (by omega)]; rfl
          refine ⟨[some (D.int (0 + (j : Int))), some (.str n), some (.lst RD)], rfl, ⟨_, rfl⟩, ?_, fun _ => ?_⟩
          · have r1 := rowsAt (z := 0 + (j : Int)) (by omega) hjR st2
            rw [← hR] at r1
            unfold Czlaw_3
            simp only [z_B, z_bin, z_var, List.getElem?_cons_zero, List.getElem?_cons_succ, z_bind_ok, r1, z_C, ps0, eqS, z_asB]
          · unfold Ezlaw_4
            rfl
      have c2 := ix_last (xs := ((List.range k).filter fun j => decide ((R.getD j ("", [], [])).1 = n)).map fun (i : Nat) => D.int (0 + i)) (v := D.int (0 + l)) (by rw [List.getLast?_map, t2]; rfl) st2
      have e5 : (0 : Int) + l = l := by omega
      rw [e5] at c2
      unfold Pzlaw_p12
      generalize ((List.range k).filter fun j => decide ((R.getD j ("", [], [])).1 = n)).map (fun (i : Nat) => D.int (0 + i)) = T at c1 c2
      simp only [z_sSet, z_bin, z_F, z_comp, dRng1, z_cons, z_nil, z_var, List.getElem?_cons_zero, List.getElem?_cons_succ, z_bind_ok, if_pos g1, Int.toNat_natCast, capEv]
      simp only [List.map_cons, List.map_nil, List.getElem?_cons_zero, List.getElem?_cons_succ, Option.getD_some, Option.join_some, List.replicate, List.cons_append, List.nil_append]
      first
        | (rw [c1]; simp [c2]; done)
        | (simp [c1, c2]; done)
    have own1 : (WD.getLast?) = some (psD s) := by rw [hW, List.getLast?_map, t1]; rfl
    have hpl : s.2.1 = endS σ (R.take l) n := by
      have := (valR_at K.va hs).2
      rw [hsn] at this
      exact this
    refine (seq_nx (st' := st3) (ρ' := EL ns b u RD k n OD SD WD (some (.res st.length)) (some (.int l)) none none none) ?_).trans ?_
    · have d3 := K3.P.done
      have p3 := K3.place hn
      have x3 := ix_last own1 st3
      unfold Pzlaw_p13
      refine sif_no (tst_or (tst_ne (a := .int ((k : Int) - l)) rfl (st1 := st3) (st2 := st3) ?_ ?_) (tst_or (tst_ne (a := .int l) rfl (st1 := st3) (st2 := st3) ?_ ?_) (tst_ne (nice_pl' s.2.1) (st1 := st3) ?_ ?_)))
      · simp [z_meth, K2.P.ins, pn_back_in, e3]
      · simp [subD_int]
      · simp [z_meth, K3.P.ins, pn_done, d3]
      · rfl
      · rw [hpl]
        simp [z_meth, K3.P.ins, pn_place, p3]
      · simp [x3, ps1]
    · have sn := K3.snapL (L := N3) (fun _ h => h) (by decide) rfl
      have hu3 : st3[u]? = some (.lst (fL σ R)) := frm3 _ _ hu
      have f3 : ixD (.res u) (.int (l : Int)) st3 = .ok (snD (endS σ (R.take l))) st3 := ix_res hu3 rfl (fL_at σ R (by omega))
      have hi : itemsOf st3 (.lst (N3.map D.str)) = some (N3.map D.str) := rfl
      have q3 : (3 : Nat) ≤ small := by decide
      unfold Pzlaw_p14 Ezlaw_5
      refine sif_no (tst_ne (nice_sn (endS σ (R.take l))) (st1 := st3) ?_ ?_)
      · have X3 : MS N3 cv st3 st.length (st.length + 1) u R l σ (fL σ R) := ⟨_, _, K3, hu3⟩
        exact X3.snapE (fun _ h => h) (by decide) rfl 9 _ rfl (lstN3 _ _)
      · simp [f3]
/-! ### k42: the law -/
noncomputable abbrev EM (ns : List Int) (b u : Nat) (RD : List D) (k : Nat) (n : Str) (OD SD WD : List D) (c9 c10 : Option D) (LD : List D) (c12 c13 : Option D) : Ev := EL ns b u RD k n OD SD WD c9 c10 (some (.lst LD)) c12 c13
theorem p20_eq {N : List Str} {cv : Nat → Addr} {b d u : Nat} {R : List PStep} {σ : Sg} {FL : List D} (ρ : Ev) (hρ : ρ[1]? = some (some (.res b))) : ∀ (k f : Nat) (st : Sto), k < f → MS N cv st b d u R k σ FL →
    ∃ st', whileD f (Vzlaw_1 cv) (Wzlaw_1 cv) ρ st = .nx ρ st' ∧ MS N cv st' b d u R 0 σ FL
  | 0, f + 1, st, _, X => by
    refine ⟨st, ?_, X⟩
    have e1 := X.mDone ρ hρ
    have hv : Vzlaw_1 cv ρ st = .ok false st := by
      unfold Vzlaw_1
      simp only [z_B, z_bin, e1, z_bind_ok, z_C, gtD, cmpD]
      rfl
    unfold whileD
    simp only [hv, z_to_ok, Bool.false_eq_true, if_false]
  | j + 1, f + 1, st, hf, X => by
    have e1 := X.mDone ρ hρ
    have hgt : decide (((j + 1 : Nat) : Int) > 0) = true := decide_eq_true (by omega)
    have hv : Vzlaw_1 cv ρ st = .ok true st := by
      unfold Vzlaw_1
      simp only [z_B, z_bin, e1, z_bind_ok, z_C, gtD, cmpD, hgt]
      rfl
    obtain ⟨st1, s, hs, b1, X1⟩ := X.mBack rfl
    obtain ⟨st', ih, X'⟩ := p20_eq ρ hρ j f st1 (by omega) X1
    refine ⟨st', ?_, X'⟩
    have hw : Wzlaw_1 cv ρ st = .nx ρ st1 := by
      unfold Wzlaw_1
      rw [z_sExpr, b1 ρ hρ]
      rfl
    conv => lhs; unfold whileD
    simp only [hv, z_to_ok, if_true, hw]
    exact ih
theorem idx_eq {m : Str} (hm : m ∈ N3) (σ : Sg) (st : Sto) : ∃ z : Int, indexD (.lst (N3.map D.str)) [.str m] st = .ok (.int z) st ∧ ixD (snD σ) (.int z) st = .ok (pl (σ m)) st := by
  have e : ∀ w : Str, eqN st depth (.str w) (.str m) = some (decide (w = m)) := fun w => by
    rw [eqN_nice st depth _ _ rfl rfl]
    congr 1
    exact decide_eq_decide.mpr (by rw [D.str.injEq])
  have hq : eqsOf st (.str m) (N3.map D.str) = some [decide (("p" : Str) = m), decide (("q" : Str) = m), decide (("r" : Str) = m)] := by
    simp only [N3, List.map_cons, List.map_nil, eqsOf, e]
  have hs : seqL st (.lst (N3.map D.str)) = some (N3.map D.str) := rfl
  simp only [N3, List.mem_cons, List.not_mem_nil, or_false] at hm
  rcases hm with rfl | rfl | rfl
  · refine ⟨0, ?_, rfl⟩
    simp only [indexD, hs, hq]
    rfl
  · refine ⟨1, ?_, rfl⟩
    simp only [indexD, hs, hq, decide_eq_false (Ne.symm qp)]
    rfl
  · refine ⟨2, ?_, rfl⟩
    simp only [indexD, hs, hq, decide_eq_false (Ne.symm rp), decide_eq_false (Ne.symm rq)]
    rfl
theorem first_c {u : Nat} {FL : List D} {σ : Sg} {L : List Str} (hL : ∀ m ∈ L, m ∈ N3) (hl : L.length ≤ 100) {st : Sto} (hu : st[u]? = some (.lst FL)) (hF : FL[0]? = some (snD σ)) {OD : List D} (hO : OD = L.map D.str) :
    compD (fun st => itemsOf st (.lst OD) = some OD) (tgName 0) dTrue Ezlaw_10 OD [none, some (.res u)] st [] = .ok (L.map fun m => pl (σ m)) st := by
  subst hO
  have hc : itemsOf st (.lst (L.map D.str)) = some (L.map D.str) := rfl
  refine compD_mm (chk := fun st => itemsOf st (.lst (L.map D.str)) = some (L.map D.str)) D.str (fun m => pl (σ m)) (fun ρ => ∃ a, ρ = [a, some (.res u)]) hc L _ [] ⟨_, rfl⟩ (by simp; exact small_ge (by omega)) ?_
  rintro x hx ρ ⟨a, rfl⟩
  refine ⟨[some (.str x), some (.res u)], rfl, ⟨_, rfl⟩, ?_⟩
  obtain ⟨z, h1, h2⟩ := idx_eq (hL x hx) σ st
  have h3 : ixD (.res u) (.int 0) st = .ok (snD σ) st := ix_res hu rfl hF
  have hs : seqL st (.lst (N3.map D.str)) = some (N3.map D.str) := rfl
  unfold Ezlaw_10
  have h4 := lstN3 [some (.str x), some (.res u)] st
  have h5 : dLM indexD (dF (dLst (dCons (dC (.str "p")) (dCons (dC (.str "q")) (dCons (dC (.str "r")) dNil))))) (dCons (dVar 0) dNil) [some (.str x), some (.res u)] st = .ok (.int z) st := by
    rw [z_LM, h4]
    simp only [z_bind_ok, hs, z_cons, z_nil, z_var, List.getElem?_cons_zero, h1]
  simp only [z_bin, z_var, List.getElem?_cons_succ, List.getElem?_cons_zero, z_bind_ok, z_C, h3, h5, h2]
theorem law_true (cv : Nat → Addr) (ns : List Int) (hl : ns.length ≤ 63) : ∃ st, Fzlaw cv [.scr (ns.map .int)] [] = .ok (.bl true) st := by
  have hg : ∃ st, gzlaw cv [some (.scr (ns.map .int)), none, none, none, none, none, none, none, none, none, none, none, none, none] [] = .rt (.bl true) st := by
    have q1 : (1 : Nat) ≤ small := by decide
    have k1 := make_panes (cv := cv) []
    have A1 : PanesAt cv [.ins (cv 3) (pn 1 2 0), .dct [], .lst []] 0 1 2 [] [] 0 := panes_new (cv := cv) []
    have k1' : FzPanes___init__ cv [.res 0] [.ins (cv 3) []] = .ok .non [.ins (cv 3) (pn 1 2 0), .dct [], .lst []] := k1
    unfold gzlaw
    refine seq_go (ρ' := [some (.scr (ns.map .int)), some (.res 0), none, none, none, none, none, none, none, none, none, none, none, none]) (st' := [.ins (cv 3) (pn 1 2 0), .dct [], .lst []]) ?_ ?_
    · unfold Pzlaw_p1
      simp [z_make, k1', asNon]
    generalize ([.ins (cv 3) (pn 1 2 0), .dct [], .lst []] : Sto) = st1 at A1 ⊢
    obtain ⟨st2, i2, u, sh2, e2, K2, hu2, _, _, _, _⟩ := panes_eq cv ns hl 0 A1
    have hR8 : (RV ns 0).length ≤ 8 := by unfold RV; rw [stpV_len]; exact nV_le ns 0
    refine seq_go (ρ' := [some (.scr (ns.map .int)), some (.res 0), some (.res u), none, none, none, none, none, none, none, none, none, none, none]) (st' := st2) ?_ ?_
    · unfold Pzlaw_p2
      simp [e2]
    obtain ⟨RD, hR⟩ : ∃ RD, RD = (RV ns 0).map psD := ⟨_, rfl⟩
    have e3 := K2.P.steps
    rw [← hR] at e3
    refine seq_go (ρ' := [some (.scr (ns.map .int)), some (.res 0), some (.res u), some (.lst RD), none, none, none, none, none, none, none, none, none, none]) (st' := st2) ?_ ?_
    · unfold Pzlaw_p3
      simp [z_meth, K2.P.ins, pn_steps, e3]
    have e4 := K2.P.done
    refine seq_go (ρ' := [some (.scr (ns.map .int)), some (.res 0), some (.res u), some (.lst RD), some (.int (kV0 ns 0)), none, none, none, none, none, none, none, none, none]) (st' := st2) ?_ ?_
    · unfold Pzlaw_p4
      simp [z_meth, K2.P.ins, pn_done, e4]
    have dlo := drawn_lo ns 100 3 (by decide)
    have dhi := drawn_hi ns 100 3 (by decide)
    have de := drawn_eq ns hl 100 3 (by decide) st2
    have ixn := ix_N3 (N3.map D.str) rfl _ dlo dhi st2
    obtain ⟨n, hn⟩ : ∃ n, n = N3.getD (drawnV ns 100 3).toNat "p" := ⟨_, rfl⟩
    have hnm : n ∈ N3 := by
      have : (drawnV ns 100 3).toNat = 0 ∨ (drawnV ns 100 3).toNat = 1 ∨ (drawnV ns 100 3).toNat = 2 := by omega
      rw [hn]
      rcases this with e | e | e <;> rw [e] <;> simp [N3]
    rw [← hn] at ixn
    clear hn
    refine seq_go (ρ' := [some (.scr (ns.map .int)), some (.res 0), some (.res u), some (.lst RD), some (.int (kV0 ns 0)), some (.str n), none, none, none, none, none, none, none, none]) (st' := st2) ?_ ?_
    · unfold Pzlaw_p5
      have h4 := lstN3 [some (.scr (ns.map .int)), some (.res 0), some (.res u), some (.lst RD), some (.int (kV0 ns 0)), none, none, none, none, none, none, none, none, none] st2
      rw [z_sSet, z_bin, h4]
      simp only [z_bind_ok, z_call, z_cons, z_nil, z_var, List.getElem?_cons_zero, z_C, de, ixn, z_to_ok]
      rfl
    obtain ⟨OD, hO⟩ : ∃ OD, OD = (N2 n).map D.str := ⟨_, rfl⟩
    refine seq_go (ρ' := [some (.scr (ns.map .int)), some (.res 0), some (.res u), some (.lst RD), some (.int (kV0 ns 0)), some (.str n), some (.lst OD), none, none, none, none, none, none, none]) (st' := st2) ?_ ?_
    · unfold Pzlaw_p6
      obtain ⟨NL, hN⟩ : ∃ NL, NL = N3.map D.str := ⟨_, rfl⟩
      have h4 := lstN3 [some (.scr (ns.map .int)), some (.res 0), some (.res u), some (.lst RD), some (.int (kV0 ns 0)), some (.str n), none, none, none, none, none, none, none, none] st2
      have c := others_c n st2 hN
      rw [← hN] at h4
      rw [← hO] at c
      have hi : itemsOf st2 (.lst NL) = some NL := rfl
      have c' : ∀ fs : DE, fs [some (.scr (ns.map .int)), some (.res 0), some (.res u), some (.lst RD), some (.int (kV0 ns 0)), some (.str n), none, none, none, none, none, none, none, none] st2 = .ok (.lst NL) st2 → dF (dComp [5] 1 (dSeq fs) (tgName 0) Czlaw_1 Ezlaw_1) [some (.scr (ns.map .int)), some (.res 0), some (.res u), some (.lst RD), some (.int (kV0 ns 0)), some (.str n), none, none, none, none, none, none, none, none] st2 = .ok (.lst OD) st2 := fun fs h => by
        simp [h, hi, capEv, c]
      rw [z_sSet, c' _ h4]
      rfl
    have X2 : MS N3 cv st2 0 1 u (RV ns 0) (kV0 ns 0) (sg0 ns 0) (fL (sg0 ns 0) (RV ns 0)) := ⟨_, _, K2, hu2⟩
    obtain ⟨SD, hS⟩ : ∃ SD, SD = (N2 n).map fun m => pl (endS (sg0 ns 0) ((RV ns 0).take (kV0 ns 0)) m) := ⟨_, rfl⟩
    refine seq_go (ρ' := [some (.scr (ns.map .int)), some (.res 0), some (.res u), some (.lst RD), some (.int (kV0 ns 0)), some (.str n), some (.lst OD), some (.lst SD), none, none, none, none, none, none]) (st' := st2) ?_ ?_
    · have c := X2.snapE (fun m hm => N2_sub hm) (by have := N2_le n; omega) hO (fs := dVar 6) 1 [some (.scr (ns.map .int)), some (.res 0), some (.res u), some (.lst RD), some (.int (kV0 ns 0)), some (.str n), some (.lst OD), none, none, none, none, none, none, none] rfl rfl
      unfold Pzlaw_p7 Ezlaw_2
      rw [z_sSet, c, hS]
      rfl
    obtain ⟨WD, hW⟩ : ∃ WD, WD = (ownS ((RV ns 0).take (kV0 ns 0)) n).map psD := ⟨_, rfl⟩
    refine seq_go (ρ' := EL ns 0 u RD (kV0 ns 0) n OD SD WD none none none none none) (st' := st2) ?_ ?_
    · obtain ⟨T, hT⟩ : ∃ T, T = ((RV ns 0).take (kV0 ns 0)).map psD := ⟨_, rfl⟩
      have c1 : cutL RD none (some ((kV0 ns 0 : Nat) : Int)) = T := by rw [cutL_to, hR, hT, List.map_take]
      have c2 := own_c Czlaw_2 Ezlaw_3 hCeq hE0 (L := (RV ns 0).take (kV0 ns 0)) (by rw [List.length_take]; omega) n st2 hT
      rw [← hW] at c2
      have hi : itemsOf st2 (.lst T) = some T := rfl
      unfold Pzlaw_p8
      simp [cutF_l, c1, hi, capEv, c2]
    obtain ⟨st3, c9, c10, e5, K3, hu3⟩ := p9_eq cv ns hl K2 hu2 n hnm hR OD SD hW
    refine seq_go e5 ?_
    clear e2 e3 e4 e5 ixn de K2 X2 A1
    generalize RV ns 0 = R at *
    generalize kV0 ns 0 = k at *
    generalize sg0 ns 0 = σ at *
    have hkR := K3.P.le
    -- close
    obtain ⟨st4, i4, e6, K4, C4⟩ := K3.close hnm
    have hu4 := K3.fr hu3 C4
    have e7 := K4.P.names (by have := K4.sl; omega)
    rw [K4.ks, srt_N N3_pw, ← hO] at e7
    have l4 : (ownS R n).length ≤ 100 := Nat.le_trans (List.length_filter_le _ _) (by omega)
    have hiR : ∀ s : Sto, itemsOf s (.lst RD) = some RD := fun _ => rfl
    refine seq_go (ρ' := EL ns 0 u RD k n OD SD WD c9 c10 none none none) (st' := st4) ?_ ?_
    · unfold Pzlaw_p15
      refine sif_no (tst_or (tst_ne (a := .int (ownS R n).length) rfl (st1 := st4) (st2 := st4) ?_ ?_) (tst_ne (a := .lst OD) (by rw [hO]; exact nice_strL _) (st1 := st4) ?_ ?_))
      · simp [z_meth, K3.P.ins, pn_close, e6]
      · have c := own_c Czlaw_4 Ezlaw_6 hCeq hE0 (L := R) (by omega) n st4 hR
        obtain ⟨T, hT⟩ : ∃ T, T = (ownS R n).map psD := ⟨_, rfl⟩
        rw [← hT] at c
        have hl2 := lenL T st4
        rw [hT, List.length_map, ← hT] at hl2
        simp [hiR st4, capEv, c, hl2]
      · simp [z_meth, K4.P.ins, pn_names, e7]
      · rfl
    obtain ⟨R', hR'⟩ : ∃ R', R' = othS R n := ⟨_, rfl⟩
    obtain ⟨k', hk'⟩ : ∃ k', k' = (othS (R.take k) n).length := ⟨_, rfl⟩
    have htk : R'.take k' = othS (R.take k) n := by rw [hR', hk']; exact oth_take R n k
    have hsame : ∀ m ∈ N2 n, endS σ (R'.take k') m = endS σ (R.take k) m := fun m hm => by
      rw [htk]
      exact (endS_oth n _ σ σ (fun _ _ => rfl) m (by simpa using (List.mem_filter.mp hm).2)).symm
    have hown : ownS R' n = [] := by
      rw [hR']
      unfold ownS othS
      rw [List.filter_filter]
      refine List.filter_eq_nil_iff.mpr fun s _ => ?_
      simp
    have hRl' : R'.length ≤ 8 := by rw [hR']; exact Nat.le_trans (List.length_filter_le _ _) hR8
    have hl5 : ∀ s : Sto, ∀ (C : DT) (E : DE), (∀ (s : PStep) (n : Str) (st : Sto), C [some (psD s), some (.str n)] st = .ok (decide (s.1 ≠ n)) st) → (∀ (s : PStep) (n : Str) (st : Sto), E [some (psD s), some (.str n)] st = .ok (psD s) st) →
        compD (fun st => itemsOf st (.lst RD) = some RD) (tgName 0) C E RD [none, some (.str n)] s [] = .ok (R'.map psD) s := fun s C E h1 h2 => by
      rw [hR']
      exact oth_c C E h1 h2 (L := R) (by omega) n s hR
    rw [← hR', ← hk'] at K4
    have X4 : MS (N2 n) cv st4 0 1 u R' k' σ (fL σ R) := ⟨_, _, K4, hu4⟩
    obtain ⟨LD, hL⟩ : ∃ LD, LD = R'.map psD := ⟨_, rfl⟩
    rw [← hL] at hl5
    refine seq_go (ρ' := EM ns 0 u RD k n OD SD WD c9 c10 LD none none) (st' := st4) ?_ ?_
    · have c := hl5 st4 Czlaw_5 Ezlaw_7 hCne hE0
      unfold Pzlaw_p16
      simp [hiR st4, capEv, c]
    have s4 := X4.mSteps (EM ns 0 u RD k n OD SD WD c9 c10 LD none none) rfl
    refine seq_go (ρ' := EM ns 0 u RD k n OD SD WD c9 c10 LD none none) (st' := st4) ?_ ?_
    · unfold Pzlaw_p17
      exact sif_no (tst_ne (nice_psL R') (st1 := st4) s4 (by rw [hL]; rfl))
    have n4 := X4.mDone (EM ns 0 u RD k n OD SD WD c9 c10 LD none none) rfl
    refine seq_go (ρ' := EM ns 0 u RD k n OD SD WD c9 c10 LD none none) (st' := st4) ?_ ?_
    · unfold Pzlaw_p18
      refine sif_no (tst_ne (a := .int k') rfl (st1 := st4) n4 ?_)
      obtain ⟨T, hT⟩ : ∃ T, T = (R.take k).map psD := ⟨_, rfl⟩
      have c1 : cutL RD none (some (k : Int)) = T := by rw [cutL_to, hR, hT, List.map_take]
      have c2 := oth_c Czlaw_6 Ezlaw_8 hCne hE0 (L := R.take k) (by rw [List.length_take]; omega) n st4 hT
      obtain ⟨T2, hT2⟩ : ∃ T2, T2 = (othS (R.take k) n).map psD := ⟨_, rfl⟩
      rw [← hT2] at c2
      have hl2 := lenL T2 st4
      rw [hT2, List.length_map, ← hT2, ← hk'] at hl2
      have hi : itemsOf st4 (.lst T) = some T := rfl
      simp [cutF_l, c1, hi, capEv, c2, hl2]
    have hN2l : (N2 n).length ≤ 100 := by have := N2_le n; omega
    have sn4 := X4.snapE (fun m hm => hm) hN2l hO (fs := dVar 6) 1 (EM ns 0 u RD k n OD SD WD c9 c10 LD none none) rfl rfl
    have hS' : SD = (N2 n).map fun m => pl (endS σ (R'.take k') m) := by
      rw [hS]
      exact List.map_congr_left fun m hm => by rw [hsame m hm]
    refine seq_go (ρ' := EM ns 0 u RD k n OD SD WD c9 c10 LD none none) (st' := st4) ?_ ?_
    · unfold Pzlaw_p19 Ezlaw_9
      exact sif_no (tst_ne (nice_plL _ _) (st1 := st4) sn4 (by rw [hS']; rfl))
    obtain ⟨st5, e8, X5⟩ := p20_eq (EM ns 0 u RD k n OD SD WD c9 c10 LD none none) rfl k' 100 st4 (by have := X4.le; omega) X4
    refine seq_go (by unfold Pzlaw_p20; exact e8) ?_
    obtain ⟨TD, hTD⟩ : ∃ TD, TD = (N2 n).map fun m => pl (σ m) := ⟨_, rfl⟩
    have f0 : (fL σ R)[0]? = some (snD σ) := fL_at σ R (Nat.zero_le _)
    have fc := first_c (fun m hm => N2_sub hm) hN2l X5.found f0 hO
    rw [← hTD] at fc
    have hiO : ∀ s : Sto, itemsOf s (.lst OD) = some OD := fun _ => rfl
    refine seq_go (ρ' := EM ns 0 u RD k n OD SD WD c9 c10 LD (some (.lst TD)) none) (st' := st5) ?_ ?_
    · unfold Pzlaw_p21
      simp [hiO st5, capEv, fc]
    have sn5 := X5.snapE (fun m hm => hm) hN2l hO (fs := dVar 6) 1 (EM ns 0 u RD k n OD SD WD c9 c10 LD (some (.lst TD)) none) rfl rfl
    have ht0 : (fun m : Str => pl (endS σ (R'.take 0) m)) = fun m => pl (σ m) := rfl
    rw [ht0] at sn5
    refine seq_go (ρ' := EM ns 0 u RD k n OD SD WD c9 c10 LD (some (.lst TD)) none) (st' := st5) ?_ ?_
    · unfold Pzlaw_p22 Ezlaw_11
      exact sif_no (tst_ne (nice_plL _ _) (st1 := st5) sn5 (by rw [hTD]; rfl))
    -- forth
    obtain ⟨ρ6, st6, e9, ⟨c13, rfl, X6⟩⟩ := loop_off (chk := fun s => itemsOf s (.lst LD) = some LD) (t := tgName 13) (g := Bzlaw_1 cv)
      (fun j ρ s => ∃ c13, ρ = EM ns 0 u RD k n OD SD WD c9 c10 LD (some (.lst TD)) c13 ∧ MS (N2 n) cv s 0 1 u R' j σ (fL σ R)) (fun _ _ _ _ => rfl) LD 0
      (by
        rintro j x hx ρ s ⟨c13, rfl, Y⟩
        rw [Nat.zero_add] at Y ⊢
        rw [hL, List.getElem?_map] at hx
        obtain ⟨p, hp, rfl⟩ := Option.map_eq_some_iff.mp hx
        obtain ⟨s1, f1, Y1⟩ := Y.mForth hp
        have hv := valR_at Y.va hp
        refine ⟨EM ns 0 u RD k n OD SD WD c9 c10 LD (some (.lst TD)) (some (psD p)), EM ns 0 u RD k n OD SD WD c9 c10 LD (some (.lst TD)) (some (psD p)), s1, rfl, ?_, some (psD p), rfl, Y1⟩
        unfold Bzlaw_1
        have hp0 : ∀ s0 : Sto, dBin ixD (dVar 13) (dC (.int 0)) (EM ns 0 u RD k n OD SD WD c9 c10 LD (some (.lst TD)) (some (psD p))) s0 = .ok (.str p.1) s0 := fun s0 => rfl
        have hp2 : dBin ixD (dVar 13) (dC (.int 2)) (EM ns 0 u RD k n OD SD WD c9 c10 LD (some (.lst TD)) (some (psD p))) s1 = .ok (pl p.2.2) s1 := rfl
        have pq := Y1.mPlace hv.1 (fa := dBin ixD (dVar 13) (dC (.int 0))) (EM ns 0 u RD k n OD SD WD c9 c10 LD (some (.lst TD)) (some (psD p))) rfl (hp0 s1)
        have he : endS σ (R'.take (j + 1)) p.1 = p.2.2 := by
          rw [endS_succ σ hp]
          unfold updF
          rw [if_pos rfl]
        rw [he] at pq
        exact sif_no (tst_or (tst_ne (a := .str p.1) rfl (st1 := s1) (st2 := s1) (f1 _ rfl) (hp0 s1)) (tst_ne (nice_pl' p.2.2) (st1 := s1) pq hp2))) (EM ns 0 u RD k n OD SD WD c9 c10 LD (some (.lst TD)) none) st5 ⟨_, rfl, X5⟩
    refine seq_go (ρ' := EM ns 0 u RD k n OD SD WD c9 c10 LD (some (.lst TD)) c13) (st' := st6) ?_ ?_
    · have hiL : itemsOf st5 (.lst LD) = some LD := rfl
      unfold Pzlaw_p23
      rw [z_sFor]
      simp only [z_seq, z_var, List.getElem?_cons_succ, List.getElem?_cons_zero, z_bind_ok, hiL, z_to_ok]
      exact e9
    -- the name again
    obtain ⟨i6, sh6, K6, hu6⟩ := X6
    have hno : valS sh6 n = none := by
      cases hv : valS sh6 n with
      | none => rfl
      | some q =>
        exfalso
        have : n ∈ sh6.map (·.1) := valS_mem hv
        rw [K6.ks] at this
        simp at this
    have ez : D.tup [.str "zz"] = pl [("zz" : Str)] := rfl
    obtain ⟨st7, e10, P7, C7⟩ := K6.P.add hno (by have := K6.sl; omega) [("zz" : Str)]
    refine seq_go (ρ' := EM ns 0 u RD k n OD SD WD c9 c10 LD (some (.lst TD)) c13) (st' := st7) ?_ ?_
    · unfold Pzlaw_p24
      simp [z_meth, K6.P.ins, pn_add, q1, ez, e10]
    have v7 : valS (putS sh6 n [("zz" : Str)]) n = some [("zz" : Str)] := valS_put_same _ _ _
    have a1 := P7.seen v7
    have a2 := P7.steps
    have a3 := P7.place v7
    have hsn : seenV R' n [("zz" : Str)] = [[("zz" : Str)]] := by
      unfold seenV
      rw [hown]
    rw [hsn] at a1
    rw [← hL] at a2
    have h1 : eqD (.lst [pl [("zz" : Str)]]) (.lst [pl [("zz" : Str)]]) st7 = .ok (.bl true) st7 := by
      have := nice_pls [[("zz" : Str)]]
      simp only [List.map_cons, List.map_nil] at this
      rw [eqD_nice this this]
      simp
    have h2 : eqD (.lst LD) (.lst LD) st7 = .ok (.bl true) st7 := by
      have : nice depth (.lst LD) = true := by rw [hL]; exact nice_psL R'
      rw [eqD_nice this this]
      simp
    have h3 : eqD (pl [("zz" : Str)]) (pl [("zz" : Str)]) st7 = .ok (.bl true) st7 := by
      rw [eqD_nice (nice_pl' _) (nice_pl' _)]
      simp
    refine ⟨st7, ?_⟩
    simp only [List.map_cons, List.map_nil] at a1
    unfold Pzlaw_p25
    simp [z_meth, P7.ins, pn_seen, pn_steps, pn_place, a1, a2, a3, q1, ez, h1, h2, h3]
  obtain ⟨st, hg⟩ := hg
  exact ⟨st, by unfold Fzlaw; exact run_rt rfl hg⟩
end K42

end
/-! K42c -/
section
set_option Elab.async false
set_option linter.all false
set_option maxRecDepth 100000
set_option maxHeartbeats 2000000
namespace K42
open PySem L2 DL
theorem all_mk {l : PySem.W.OpenLaw} {w : World} {K : PySem.W.Frag} {h : Heap} {mg : Str → Option Value} {fa f0 f1 f2 f3 f4 f5 f6 f7 f8 f9 f10 f11 f12 f13 f14 f15 f16 f17 f18 C_Panes C_NoPane C_NoPlace C_Taken : Addr} (X : K.In h) (G : h.Ns mainGlobals mg) (hfa : mg "law" = some (.ref fa))
    {od0 an0 : Option Addr} {sl0 : Array (Option Value)} {oc0 kV0 dc0 pm0 cd0 ct0 : Value}
    {od1 an1 : Option Addr} {sl1 : Array (Option Value)} {oc1 kV1 dc1 pm1 cd1 ct1 : Value}
    {od2 an2 : Option Addr} {sl2 : Array (Option Value)} {oc2 kV2 dc2 pm2 cd2 ct2 : Value}
    {od3 an3 : Option Addr} {sl3 : Array (Option Value)} {oc3 kV3 dc3 pm3 cd3 ct3 : Value}
    {od4 an4 : Option Addr} {sl4 : Array (Option Value)} {oc4 kV4 dc4 pm4 cd4 ct4 : Value}
    {od5 an5 : Option Addr} {sl5 : Array (Option Value)} {oc5 kV5 dc5 pm5 cd5 ct5 : Value}
    {od6 an6 : Option Addr} {sl6 : Array (Option Value)} {oc6 kV6 dc6 pm6 cd6 ct6 : Value}
    {od7 an7 : Option Addr} {sl7 : Array (Option Value)} {oc7 kV7 dc7 pm7 cd7 ct7 : Value}
    {od8 an8 : Option Addr} {sl8 : Array (Option Value)} {oc8 kV8 dc8 pm8 cd8 ct8 : Value}
    {od9 an9 : Option Addr} {sl9 : Array (Option Value)} {oc9 kV9 dc9 pm9 cd9 ct9 : Value}
    {od10 an10 : Option Addr} {sl10 : Array (Option Value)} {oc10 kV10 dc10 pm10 cd10 ct10 : Value}
    {od11 an11 : Option Addr} {sl11 : Array (Option Value)} {oc11 kV11 dc11 pm11 cd11 ct11 : Value}
    {od12 an12 : Option Addr} {sl12 : Array (Option Value)} {oc12 kV12 dc12 pm12 cd12 ct12 : Value}
    {od13 an13 : Option Addr} {sl13 : Array (Option Value)} {oc13 kV13 dc13 pm13 cd13 ct13 : Value}
    {od14 an14 : Option Addr} {sl14 : Array (Option Value)} {oc14 kV14 dc14 pm14 cd14 ct14 : Value}
    {od15 an15 : Option Addr} {sl15 : Array (Option Value)} {oc15 kV15 dc15 pm15 cd15 ct15 : Value}
    {od16 an16 : Option Addr} {sl16 : Array (Option Value)} {oc16 kV16 dc16 pm16 cd16 ct16 : Value}
    {od17 an17 : Option Addr} {sl17 : Array (Option Value)} {oc17 kV17 dc17 pm17 cd17 ct17 : Value}
    {od18 an18 : Option Addr} {sl18 : Array (Option Value)} {oc18 kV18 dc18 pm18 cd18 ct18 : Value}
    (a_Panes : PySem.W.nsIn K mainGlobals "Panes" = some (some (.ref C_Panes)))
    (a_NoPane : PySem.W.nsIn K mainGlobals "NoPane" = some (some (.ref C_NoPane)))
    (a_NoPlace : PySem.W.nsIn K mainGlobals "NoPlace" = some (some (.ref C_NoPlace)))
    (a_Taken : PySem.W.nsIn K mainGlobals "Taken" = some (some (.ref C_Taken)))
    (a0 : PySem.W.findIn K (.ref C_Panes) "__init__" = some (some (.ref f0))) (i0 : PySem.W.isFn K (.ref f0) = true) (l0 : K.lookup f0 = some ⟨oc0, od0, .func (PySem.W.fnOf "__init__" "Panes.__init__" (defArgs szPanes___init__) (defBody szPanes___init__) (defScope szPanes___init__) .none kV0 dc0 pm0 an0 cd0 ct0), sl0⟩) (c0 : PySem.W.codeIn K cd0 "Panes.__init__" = true) (k0 : PySem.W.keepIn K (.ref f0) = true)
    (a1 : PySem.W.findIn K (.ref C_Panes) "add" = some (some (.ref f1))) (i1 : PySem.W.isFn K (.ref f1) = true) (l1 : K.lookup f1 = some ⟨oc1, od1, .func (PySem.W.fnOf "add" "Panes.add" (defArgs szPanes_add) (defBody szPanes_add) (defScope szPanes_add) .none kV1 dc1 pm1 an1 cd1 ct1), sl1⟩) (c1 : PySem.W.codeIn K cd1 "Panes.add" = true) (k1 : PySem.W.keepIn K (.ref f1) = true)
    (a2 : PySem.W.nsIn K mainGlobals "_law_cell" = some (some (.ref f2))) (l2 : K.lookup f2 = some ⟨oc2, od2, .func (PySem.W.fnOf "_law_cell" "_law_cell" (defArgs sz_law_cell) (defBody sz_law_cell) (defScope sz_law_cell) .none kV2 dc2 pm2 an2 cd2 ct2), sl2⟩) (c2 : PySem.W.codeIn K cd2 "_law_cell" = true) (k2 : PySem.W.keepIn K (.ref f2) = true)
    (a3 : PySem.W.nsIn K mainGlobals "_law_drawn" = some (some (.ref f3))) (l3 : K.lookup f3 = some ⟨oc3, od3, .func (PySem.W.fnOf "_law_drawn" "_law_drawn" (defArgs sz_law_drawn) (defBody sz_law_drawn) (defScope sz_law_drawn) .none kV3 dc3 pm3 an3 cd3 ct3), sl3⟩) (c3 : PySem.W.codeIn K cd3 "_law_drawn" = true) (k3 : PySem.W.keepIn K (.ref f3) = true)
    (a4 : PySem.W.nsIn K mainGlobals "_law_place" = some (some (.ref f4))) (l4 : K.lookup f4 = some ⟨oc4, od4, .func (PySem.W.fnOf "_law_place" "_law_place" (defArgs sz_law_place) (defBody sz_law_place) (defScope sz_law_place) .none kV4 dc4 pm4 an4 cd4 ct4), sl4⟩) (c4 : PySem.W.codeIn K cd4 "_law_place" = true) (k4 : PySem.W.keepIn K (.ref f4) = true)
    (a5 : PySem.W.findIn K (.ref C_Panes) "check_name" = some (some (.ref f5))) (i5 : PySem.W.isFn K (.ref f5) = true) (l5 : K.lookup f5 = some ⟨oc5, od5, .func (PySem.W.fnOf "check_name" "Panes.check_name" (defArgs szPanes_check_name) (defBody szPanes_check_name) (defScope szPanes_check_name) .none kV5 dc5 pm5 an5 cd5 ct5), sl5⟩) (c5 : PySem.W.codeIn K cd5 "Panes.check_name" = true) (k5 : PySem.W.keepIn K (.ref f5) = true)
    (a6 : PySem.W.findIn K (.ref C_Panes) "place" = some (some (.ref f6))) (i6 : PySem.W.isFn K (.ref f6) = true) (l6 : K.lookup f6 = some ⟨oc6, od6, .func (PySem.W.fnOf "place" "Panes.place" (defArgs szPanes_place) (defBody szPanes_place) (defScope szPanes_place) .none kV6 dc6 pm6 an6 cd6 ct6), sl6⟩) (c6 : PySem.W.codeIn K cd6 "Panes.place" = true) (k6 : PySem.W.keepIn K (.ref f6) = true)
    (a7 : PySem.W.findIn K (.ref C_Panes) "visit" = some (some (.ref f7))) (i7 : PySem.W.isFn K (.ref f7) = true) (l7 : K.lookup f7 = some ⟨oc7, od7, .func (PySem.W.fnOf "visit" "Panes.visit" (defArgs szPanes_visit) (defBody szPanes_visit) (defScope szPanes_visit) .none kV7 dc7 pm7 an7 cd7 ct7), sl7⟩) (c7 : PySem.W.codeIn K cd7 "Panes.visit" = true) (k7 : PySem.W.keepIn K (.ref f7) = true)
    (a8 : PySem.W.findIn K (.ref C_Panes) "back" = some (some (.ref f8))) (i8 : PySem.W.isFn K (.ref f8) = true) (l8 : K.lookup f8 = some ⟨oc8, od8, .func (PySem.W.fnOf "back" "Panes.back" (defArgs szPanes_back) (defBody szPanes_back) (defScope szPanes_back) .none kV8 dc8 pm8 an8 cd8 ct8), sl8⟩) (c8 : PySem.W.codeIn K cd8 "Panes.back" = true) (k8 : PySem.W.keepIn K (.ref f8) = true)
    (a9 : PySem.W.nsIn K mainGlobals "_law_panes" = some (some (.ref f9))) (l9 : K.lookup f9 = some ⟨oc9, od9, .func (PySem.W.fnOf "_law_panes" "_law_panes" (defArgs sz_law_panes) (defBody sz_law_panes) (defScope sz_law_panes) .none kV9 dc9 pm9 an9 cd9 ct9), sl9⟩) (c9 : PySem.W.codeIn K cd9 "_law_panes" = true) (k9 : PySem.W.keepIn K (.ref f9) = true)
    (a10 : PySem.W.findIn K (.ref C_Panes) "steps" = some (some (.ref f10))) (i10 : PySem.W.isFn K (.ref f10) = true) (l10 : K.lookup f10 = some ⟨oc10, od10, .func (PySem.W.fnOf "steps" "Panes.steps" (defArgs szPanes_steps) (defBody szPanes_steps) (defScope szPanes_steps) .none kV10 dc10 pm10 an10 cd10 ct10), sl10⟩) (c10 : PySem.W.codeIn K cd10 "Panes.steps" = true) (k10 : PySem.W.keepIn K (.ref f10) = true)
    (a11 : PySem.W.findIn K (.ref C_Panes) "done" = some (some (.ref f11))) (i11 : PySem.W.isFn K (.ref f11) = true) (l11 : K.lookup f11 = some ⟨oc11, od11, .func (PySem.W.fnOf "done" "Panes.done" (defArgs szPanes_done) (defBody szPanes_done) (defScope szPanes_done) .none kV11 dc11 pm11 an11 cd11 ct11), sl11⟩) (c11 : PySem.W.codeIn K cd11 "Panes.done" = true) (k11 : PySem.W.keepIn K (.ref f11) = true)
    (a12 : PySem.W.findIn K (.ref C_Panes) "back_in" = some (some (.ref f12))) (i12 : PySem.W.isFn K (.ref f12) = true) (l12 : K.lookup f12 = some ⟨oc12, od12, .func (PySem.W.fnOf "back_in" "Panes.back_in" (defArgs szPanes_back_in) (defBody szPanes_back_in) (defScope szPanes_back_in) .none kV12 dc12 pm12 an12 cd12 ct12), sl12⟩) (c12 : PySem.W.codeIn K cd12 "Panes.back_in" = true) (k12 : PySem.W.keepIn K (.ref f12) = true)
    (a13 : PySem.W.nsIn K mainGlobals "steps_of_others" = some (some (.ref f13))) (l13 : K.lookup f13 = some ⟨oc13, od13, .func (PySem.W.fnOf "steps_of_others" "steps_of_others" (defArgs szsteps_of_others) (defBody szsteps_of_others) (defScope szsteps_of_others) .none kV13 dc13 pm13 an13 cd13 ct13), sl13⟩) (c13 : PySem.W.codeIn K cd13 "steps_of_others" = true) (k13 : PySem.W.keepIn K (.ref f13) = true)
    (a14 : PySem.W.findIn K (.ref C_Panes) "close" = some (some (.ref f14))) (i14 : PySem.W.isFn K (.ref f14) = true) (l14 : K.lookup f14 = some ⟨oc14, od14, .func (PySem.W.fnOf "close" "Panes.close" (defArgs szPanes_close) (defBody szPanes_close) (defScope szPanes_close) .none kV14 dc14 pm14 an14 cd14 ct14), sl14⟩) (c14 : PySem.W.codeIn K cd14 "Panes.close" = true) (k14 : PySem.W.keepIn K (.ref f14) = true)
    (a15 : PySem.W.findIn K (.ref C_Panes) "names" = some (some (.ref f15))) (i15 : PySem.W.isFn K (.ref f15) = true) (l15 : K.lookup f15 = some ⟨oc15, od15, .func (PySem.W.fnOf "names" "Panes.names" (defArgs szPanes_names) (defBody szPanes_names) (defScope szPanes_names) .none kV15 dc15 pm15 an15 cd15 ct15), sl15⟩) (c15 : PySem.W.codeIn K cd15 "Panes.names" = true) (k15 : PySem.W.keepIn K (.ref f15) = true)
    (a16 : PySem.W.findIn K (.ref C_Panes) "forth" = some (some (.ref f16))) (i16 : PySem.W.isFn K (.ref f16) = true) (l16 : K.lookup f16 = some ⟨oc16, od16, .func (PySem.W.fnOf "forth" "Panes.forth" (defArgs szPanes_forth) (defBody szPanes_forth) (defScope szPanes_forth) .none kV16 dc16 pm16 an16 cd16 ct16), sl16⟩) (c16 : PySem.W.codeIn K cd16 "Panes.forth" = true) (k16 : PySem.W.keepIn K (.ref f16) = true)
    (a17 : PySem.W.findIn K (.ref C_Panes) "seen" = some (some (.ref f17))) (i17 : PySem.W.isFn K (.ref f17) = true) (l17 : K.lookup f17 = some ⟨oc17, od17, .func (PySem.W.fnOf "seen" "Panes.seen" (defArgs szPanes_seen) (defBody szPanes_seen) (defScope szPanes_seen) .none kV17 dc17 pm17 an17 cd17 ct17), sl17⟩) (c17 : PySem.W.codeIn K cd17 "Panes.seen" = true) (k17 : PySem.W.keepIn K (.ref f17) = true)
    (a18 : PySem.W.nsIn K mainGlobals "law" = some (some (.ref f18))) (l18 : K.lookup f18 = some ⟨oc18, od18, .func (PySem.W.fnOf "law" "law" (defArgs szlaw) (defBody szlaw) (defScope szlaw) .none kV18 dc18 pm18 an18 cd18 ct18), sl18⟩) (c18 : PySem.W.codeIn K cd18 "law" = true) (k18 : PySem.W.keepIn K (.ref f18) = true)
    (pg_Panes : PySem.W.plainGet K C_Panes Str.empty = true) (hd_Panes : PySem.W.hasDictIn K C_Panes = true) (po_Panes : PySem.W.plainOver K C_Panes = true) (sa_Panes : PySem.W.findIn K (.ref C_Panes) "__setattr__" = some (some (.builtin "object.__setattr__")))
    (mk_Panes : PySem.W.makesIn K C_Panes = true) (kc_Panes : PySem.W.keepIn K (.ref C_Panes) = true)
    (na_Panes_made : PySem.W.findIn K (.ref C_Panes) "made" = some none)
    (na_Panes_row : PySem.W.findIn K (.ref C_Panes) "row" = some none)
    (na_Panes_shown : PySem.W.findIn K (.ref C_Panes) "shown" = some none)
    (xx_NoPane : PySem.W.excIn K C_NoPane [.type "ValueError", .type "Exception", .type "BaseException", .type "object"] "ValueError.__new__" = true)
    (xx_NoPlace : PySem.W.excIn K C_NoPlace [.type "ValueError", .type "Exception", .type "BaseException", .type "object"] "ValueError.__new__" = true)
    (xx_Taken : PySem.W.excIn K C_Taken [.type "ValueError", .type "Exception", .type "BaseException", .type "object"] "ValueError.__new__" = true)
    (z_enumerate : PySem.W.nsIn K mainGlobals "enumerate" = some none)    (z_len : PySem.W.nsIn K mainGlobals "len" = some none)    (z_list : PySem.W.nsIn K mainGlobals "list" = some none)    (z_range : PySem.W.nsIn K mainGlobals "range" = some none)    (z_sorted : PySem.W.nsIn K mainGlobals "sorted" = some none)    (z_tuple : PySem.W.nsIn K mainGlobals "tuple" = some none) :
    ∃ fd : FuncData, (∀ (s : Shared) (v : Value), BindsTo s fd ⟨[v], []⟩ [("_law_script", v)]) ∧ ∀ base : Heap, K.In base → base.Ns mainGlobals mg → FnOk l.prog w K mg base CX0 5 fa fd ["_law_script"] (spA K Fzlaw) := by
  have e := hfa.symm.trans (PySem.W.mg_of X G a18)
  cases e
  obtain ⟨cv, rfl, rfl, rfl, rfl⟩ : ∃ cv : Nat → Addr, cv 3 = C_Panes ∧ cv 12 = C_NoPane ∧ cv 11 = C_NoPlace ∧ cv 13 = C_Taken := ⟨fun n => match n with | 3 => C_Panes | 12 => C_NoPane | 11 => C_NoPlace | 13 => C_Taken | _ => 0, rfl, rfl, rfl, rfl⟩
  have b_enumerate := PySem.W.mg_none_of X G z_enumerate
  have b_len := PySem.W.mg_none_of X G z_len
  have b_list := PySem.W.mg_none_of X G z_list
  have b_range := PySem.W.mg_none_of X G z_range
  have b_sorted := PySem.W.mg_none_of X G z_sorted
  have b_tuple := PySem.W.mg_none_of X G z_tuple
  have cl_Panes : Cls K (cv 3) := ⟨pg_Panes, hd_Panes, po_Panes, sa_Panes⟩
  have m_Panes := PySem.W.mg_of X G a_Panes
  have m_NoPane := PySem.W.mg_of X G a_NoPane
  have m_NoPlace := PySem.W.mg_of X G a_NoPlace
  have m_Taken := PySem.W.mg_of X G a_Taken
  have xc_NoPane := xx_NoPane
  have xc_NoPlace := xx_NoPlace
  have xc_Taken := xx_Taken
  have mg_NoPane := m_NoPane
  have mg_NoPlace := m_NoPlace
  have mg_Taken := m_Taken
  have na_Panes_made : NoAttr K (cv 3) "made" := na_Panes_made
  have na_Panes_row : NoAttr K (cv 3) "row" := na_Panes_row
  have na_Panes_shown : NoAttr K (cv 3) "shown" := na_Panes_shown
  have F0 := fun_mk (st := szPanes___init__) l0 c0 k0
  have b0 := F0.binds (ps := ["self"]) fun _ _ _ _ _ _ => by refine us1 ?_; intros; rfl
  have F1 := fun_mk (st := szPanes_add) l1 c1 k1
  have b1 := F1.binds (ps := ["self", "name", "place"]) fun _ _ _ _ _ _ => by refine us3 ?_; intros; rfl
  have F2 := fun_mk (st := sz_law_cell) l2 c2 k2
  have b2 := F2.binds (ps := ["_law_script", "_law_k"]) fun _ _ _ _ _ _ => by refine us2 ?_; intros; rfl
  have m2 := PySem.W.mg_of X G a2
  have F3 := fun_mk (st := sz_law_drawn) l3 c3 k3
  have b3 := F3.binds (ps := ["_law_script", "_law_k", "_law_many"]) fun _ _ _ _ _ _ => by refine us3 ?_; intros; rfl
  have m3 := PySem.W.mg_of X G a3
  have F4 := fun_mk (st := sz_law_place) l4 c4 k4
  have b4 := F4.binds (ps := ["_law_script", "_law_at"]) fun _ _ _ _ _ _ => by refine us2 ?_; intros; rfl
  have m4 := PySem.W.mg_of X G a4
  have F5 := fun_mk (st := szPanes_check_name) l5 c5 k5
  have b5 := F5.binds (ps := ["self", "name"]) fun _ _ _ _ _ _ => by refine us2 ?_; intros; rfl
  have F6 := fun_mk (st := szPanes_place) l6 c6 k6
  have b6 := F6.binds (ps := ["self", "name"]) fun _ _ _ _ _ _ => by refine us2 ?_; intros; rfl
  have F7 := fun_mk (st := szPanes_visit) l7 c7 k7
  have b7 := F7.binds (ps := ["self", "name", "place"]) fun _ _ _ _ _ _ => by refine us3 ?_; intros; rfl
  have F8 := fun_mk (st := szPanes_back) l8 c8 k8
  have b8 := F8.binds (ps := ["self"]) fun _ _ _ _ _ _ => by refine us1 ?_; intros; rfl
  have F9 := fun_mk (st := sz_law_panes) l9 c9 k9
  have b9 := F9.binds (ps := ["_law_script", "_law_at", "_law_panes_here"]) fun _ _ _ _ _ _ => by refine us3 ?_; intros; rfl
  have m9 := PySem.W.mg_of X G a9
  have F10 := fun_mk (st := szPanes_steps) l10 c10 k10
  have b10 := F10.binds (ps := ["self"]) fun _ _ _ _ _ _ => by refine us1 ?_; intros; rfl
  have F11 := fun_mk (st := szPanes_done) l11 c11 k11
  have b11 := F11.binds (ps := ["self"]) fun _ _ _ _ _ _ => by refine us1 ?_; intros; rfl
  have F12 := fun_mk (st := szPanes_back_in) l12 c12 k12
  have b12 := F12.binds (ps := ["self", "name"]) fun _ _ _ _ _ _ => by refine us2 ?_; intros; rfl
  have F13 := fun_mk (st := szsteps_of_others) l13 c13 k13
  have b13 := F13.binds (ps := ["steps", "name"]) fun _ _ _ _ _ _ => by refine us2 ?_; intros; rfl
  have m13 := PySem.W.mg_of X G a13
  have F14 := fun_mk (st := szPanes_close) l14 c14 k14
  have b14 := F14.binds (ps := ["self", "name"]) fun _ _ _ _ _ _ => by refine us2 ?_; intros; rfl
  have F15 := fun_mk (st := szPanes_names) l15 c15 k15
  have b15 := F15.binds (ps := ["self"]) fun _ _ _ _ _ _ => by refine us1 ?_; intros; rfl
  have F16 := fun_mk (st := szPanes_forth) l16 c16 k16
  have b16 := F16.binds (ps := ["self"]) fun _ _ _ _ _ _ => by refine us1 ?_; intros; rfl
  have F17 := fun_mk (st := szPanes_seen) l17 c17 k17
  have b17 := F17.binds (ps := ["self", "name"]) fun _ _ _ _ _ _ => by refine us2 ?_; intros; rfl
  have F18 := fun_mk (st := szlaw) l18 c18 k18
  have b18 := F18.binds (ps := ["_law_script"]) fun _ _ _ _ _ _ => by refine us1 ?_; intros; rfl
  have m18 := PySem.W.mg_of X G a18
  refine ⟨PySem.W.fnOf "law" "law" (defArgs szlaw) (defBody szlaw) (defScope szlaw) .none kV18 dc18 pm18 an18 cd18 ct18, fun s v => .of_eq rfl, fun base _ _ => ?_⟩
  have h0 : MkAt l.prog w K mg base "Panes" (cv 3) 1 (FzPanes___init__ cv) := okzPanes___init__ F0 ⟨mk_Panes, a0, i0, kc_Panes⟩ b0 m_Panes   cl_Panes na_Panes_made na_Panes_row na_Panes_shown 
  have h1 : MtX l.prog w K mg base (cv 3) "add" 1 (FzPanes_add cv) := okzPanes_add F1 ⟨a1, i1, k1⟩ b1   cl_Panes mg_Taken na_Panes_shown xc_Taken 
  have h2 : FnAt l.prog w K mg base "_law_cell" 1 Fz_law_cell := okz_law_cell F2 m2 b2 b_len   
  have h3 : FnAt l.prog w K mg base "_law_drawn" 2 Fz_law_drawn := okz_law_drawn F3 m3 b3    h2
  have h4 : FnAt l.prog w K mg base "_law_place" 3 Fz_law_place := okz_law_place F4 m4 b4 b_range b_tuple   h3
  have h5 : MtX l.prog w K mg base (cv 3) "check_name" 1 (FzPanes_check_name cv) := okzPanes_check_name F5 ⟨a5, i5, k5⟩ b5   cl_Panes mg_NoPane na_Panes_shown xc_NoPane 
  have h6 : MtX l.prog w K mg base (cv 3) "place" 2 (FzPanes_place cv) := okzPanes_place F6 ⟨a6, i6, k6⟩ b6   cl_Panes na_Panes_shown h5
  have h7 : MtX l.prog w K mg base (cv 3) "visit" 3 (FzPanes_visit cv) := okzPanes_visit F7 ⟨a7, i7, k7⟩ b7   cl_Panes na_Panes_made na_Panes_row na_Panes_shown h6
  have h8 : MtX l.prog w K mg base (cv 3) "back" 1 (FzPanes_back cv) := okzPanes_back F8 ⟨a8, i8, k8⟩ b8   cl_Panes mg_NoPlace na_Panes_made na_Panes_row na_Panes_shown xc_NoPlace 
  have h9 : FnX l.prog w K mg base "_law_panes" 4 (Fz_law_panes cv) := okz_law_panes F9 m9 b9 b_enumerate b_len b_range  cl_Panes h1 h8 h6 h7 h3 h4
  have h10 : MtAt l.prog w K mg base (cv 3) "steps" 1 (FzPanes_steps cv) := okzPanes_steps F10 ⟨a10, i10, k10⟩ b10 b_list  cl_Panes na_Panes_row 
  have h11 : MtAt l.prog w K mg base (cv 3) "done" 1 (FzPanes_done cv) := okzPanes_done F11 ⟨a11, i11, k11⟩ b11   cl_Panes na_Panes_made 
  have h12 : MtX l.prog w K mg base (cv 3) "back_in" 2 (FzPanes_back_in cv) := okzPanes_back_in F12 ⟨a12, i12, k12⟩ b12   cl_Panes mg_NoPlace na_Panes_made na_Panes_row xc_NoPlace h8 h5
  have h13 : FnAt l.prog w K mg base "steps_of_others" 1 Fzsteps_of_others := okzsteps_of_others F13 m13 b13    
  have h14 : MtX l.prog w K mg base (cv 3) "close" 2 (FzPanes_close cv) := okzPanes_close F14 ⟨a14, i14, k14⟩ b14 b_len  cl_Panes na_Panes_made na_Panes_row na_Panes_shown h5 h13
  have h15 : MtAt l.prog w K mg base (cv 3) "names" 1 (FzPanes_names cv) := okzPanes_names F15 ⟨a15, i15, k15⟩ b15 b_sorted  cl_Panes na_Panes_shown 
  have h16 : MtX l.prog w K mg base (cv 3) "forth" 1 (FzPanes_forth cv) := okzPanes_forth F16 ⟨a16, i16, k16⟩ b16 b_len  cl_Panes mg_NoPlace na_Panes_made na_Panes_row na_Panes_shown xc_NoPlace 
  have h17 : MtX l.prog w K mg base (cv 3) "seen" 3 (FzPanes_seen cv) := okzPanes_seen F17 ⟨a17, i17, k17⟩ b17 b_len  cl_Panes na_Panes_row h6
  exact fnOk_spA (cv := cv) (okzlaw F18 b_len b_range  cl_Panes h0 h1 h8 h12 h14 h11 h16 h15 h6 h17 h10 h3 h9)
theorem walk {l : PySem.W.OpenLaw} {q : Program} {loose : List Str} {XP : (Str → Option Value) → Heap → Prop} {YP : World → Heap → Prop} {d : DefRec} {K : Params → PySem.W.Frag} (hn : l.most = some 63) (hdf : d.params.defaults = [])
    (hY : ∀ (w : World) (h : Heap), YP w h → (K w.params).In h)
    (F : ∀ (w : World) (mg : Str → Option Value) (fa : Addr) (h : Heap), (K w.params).In h → h.Ns mainGlobals mg → mg d.name = some (.ref fa) →
      ∃ fd : FuncData, (∀ (s : Shared) (u : Value), BindsTo s fd ⟨[u], []⟩ [("_law_script", u)]) ∧ ∀ base : Heap, (K w.params).In base → base.Ns mainGlobals mg → FnOk l.prog w (K w.params) mg base CX0 5 fa fd ["_law_script"] (spA (K w.params) Fzlaw)) :
    PySem.W.WalkO q loose XP YP l.row.toRowW d [] (fun f vs => PySem.call f vs) :=
  L2.walk_of (n := 63) (k := 5) (x := "_law_script") (CX := fun _ => CX0) (sp := fun w => spA (K w.params) Fzlaw) hn (by decide) hdf ⟨rfl, by decide, by decide⟩ hY F (fun _ H a ns hl ho hS cv => DL.law_sp (law_true cv) H a ns hl ho hS) fun _ _ _ _ _ z => z
end K42
noncomputable def PySem.W.Fast.tw13172660604052367476 : Nat := 0
noncomputable def PySem.W.Fast.tw16605280902153050085 : Nat := 0
noncomputable def PySem.W.Fast.tw8374155422468719031 : Nat := 0
noncomputable def PySem.W.Fast.tw13946496683202179788 : Nat := 0
noncomputable def PySem.W.Fast.tw896878414759379649 : Nat := 0
noncomputable def PySem.W.Fast.tw3181531512396954708 : Nat := 0
noncomputable def PySem.W.Fast.tw6504431033035094640 : Nat := 0
noncomputable def PySem.W.Fast.tw861502493610598483 : Nat := 0
noncomputable def PySem.W.Fast.tw8092328550381762920 : Nat := 0
noncomputable def PySem.W.Fast.tw9471680572677584723 : Nat := 0
noncomputable def PySem.W.Fast.tw7774113678449685934 : Nat := 0
noncomputable def PySem.W.Fast.tw12902166330736054541 : Nat := 0
noncomputable def PySem.W.Fast.tw12269216009862288129 : Nat := 0
open PySem PySem.W PyProof.Rows
set_option maxRecDepth 100000
set_option maxHeartbeats 0
open_top hd for PySem.Challenge.rw_cardplaces_k42_whole_closed
theorem PySem.Challenge.cw_cardplaces_k42_whole_closed_holds : PySem.Challenge.rw_cardplaces_k42_whole_closed.Holds := by
  refine hd ?_
  k_fill
  refine K42.walk (l := PySem.Challenge.rw_cardplaces_k42_whole_closed) rfl rfl (fun w h Y => PySem.W.kIn_of Y) ?F
  case F =>
    intro w mg fa h KX G hmg
    refine' K42.all_mk KX G hmg ?a_Panes ?a_NoPane ?a_NoPlace ?a_Taken ?a0 ?i0 ?l0 ?c0 ?k0 ?a1 ?i1 ?l1 ?c1 ?k1 ?a2 ?l2 ?c2 ?k2 ?a3 ?l3 ?c3 ?k3 ?a4 ?l4 ?c4 ?k4 ?a5 ?i5 ?l5 ?c5 ?k5 ?a6 ?i6 ?l6 ?c6 ?k6 ?a7 ?i7 ?l7 ?c7 ?k7 ?a8 ?i8 ?l8 ?c8 ?k8 ?a9 ?l9 ?c9 ?k9 ?a10 ?i10 ?l10 ?c10 ?k10 ?a11 ?i11 ?l11 ?c11 ?k11 ?a12 ?i12 ?l12 ?c12 ?k12 ?a13 ?l13 ?c13 ?k13 ?a14 ?i14 ?l14 ?c14 ?k14 ?a15 ?i15 ?l15 ?c15 ?k15 ?a16 ?i16 ?l16 ?c16 ?k16 ?a17 ?i17 ?l17 ?c17 ?k17 ?a18 ?l18 ?c18 ?k18 ?pg_Panes ?hd_Panes ?po_Panes ?sa_Panes ?mk_Panes ?kc_Panes ?na_Panes_made ?na_Panes_row ?na_Panes_shown ?xx_NoPane ?xx_NoPlace ?xx_Taken ?z_enumerate ?z_len ?z_list ?z_range ?z_sorted ?z_tuple
    (case a_Panes => k_is)
    (case a_NoPane => k_is)
    (case a_NoPlace => k_is)
    (case a_Taken => k_is)
    (case a0 => k_is)
    (case i0 => k_is)
    (case l0 => k_is)
    (case c0 => k_is)
    (case k0 => k_is)
    (case a1 => k_is)
    (case i1 => k_is)
    (case l1 => k_is)
    (case c1 => k_is)
    (case k1 => k_is)
    (case a2 => k_is)
    (case l2 => k_is)
    (case c2 => k_is)
    (case k2 => k_is)
    (case a3 => k_is)
    (case l3 => k_is)
    (case c3 => k_is)
    (case k3 => k_is)
    (case a4 => k_is)
    (case l4 => k_is)
    (case c4 => k_is)
    (case k4 => k_is)
    (case a5 => k_is)
    (case i5 => k_is)
    (case l5 => k_is)
    (case c5 => k_is)
    (case k5 => k_is)
    (case a6 => k_is)
    (case i6 => k_is)
    (case l6 => k_is)
    (case c6 => k_is)
    (case k6 => k_is)
    (case a7 => k_is)
    (case i7 => k_is)
    (case l7 => k_is)
    (case c7 => k_is)
    (case k7 => k_is)
    (case a8 => k_is)
    (case i8 => k_is)
    (case l8 => k_is)
    (case c8 => k_is)
    (case k8 => k_is)
    (case a9 => k_is)
    (case l9 => k_is)
    (case c9 => k_is)
    (case k9 => k_is)
    (case a10 => k_is)
    (case i10 => k_is)
    (case l10 => k_is)
    (case c10 => k_is)
    (case k10 => k_is)
    (case a11 => k_is)
    (case i11 => k_is)
    (case l11 => k_is)
    (case c11 => k_is)
    (case k11 => k_is)
    (case a12 => k_is)
    (case i12 => k_is)
    (case l12 => k_is)
    (case c12 => k_is)
    (case k12 => k_is)
    (case a13 => k_is)
    (case l13 => k_is)
    (case c13 => k_is)
    (case k13 => k_is)
    (case a14 => k_is)
    (case i14 => k_is)
    (case l14 => k_is)
    (case c14 => k_is)
    (case k14 => k_is)
    (case a15 => k_is)
    (case i15 => k_is)
    (case l15 => k_is)
    (case c15 => k_is)
    (case k15 => k_is)
    (case a16 => k_is)
    (case i16 => k_is)
    (case l16 => k_is)
    (case c16 => k_is)
    (case k16 => k_is)
    (case a17 => k_is)
    (case i17 => k_is)
    (case l17 => k_is)
    (case c17 => k_is)
    (case k17 => k_is)
    (case a18 => k_is)
    (case l18 => k_is)
    (case c18 => k_is)
    (case k18 => k_is)
    (case pg_Panes => k_is)
    (case hd_Panes => k_is)
    (case po_Panes => k_is)
    (case sa_Panes => k_is)
    (case mk_Panes => k_is)
    (case kc_Panes => k_is)
    (case na_Panes_made => k_is)
    (case na_Panes_row => k_is)
    (case na_Panes_shown => k_is)
    (case xx_NoPane => k_exc)
    (case xx_NoPlace => k_exc)
    (case xx_Taken => k_exc)
    (case z_enumerate => k_is)
    (case z_len => k_is)
    (case z_list => k_is)
    (case z_range => k_is)
    (case z_sorted => k_is)
    (case z_tuple => k_is)

end
